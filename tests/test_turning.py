"""Chains turned: promise 12."""

import unittest

from middlesay.chains import Chain
from middlesay.errors import NoChain
from middlesay.search import search
from middlesay.turning import joined, lightened, put_in, shared, trimmed
from tests.chaining import chain, clause, pigeons, some_chain, some_chains


def leant_on(steps, last):
    """The numbers of the steps on which one leans, and its own."""
    found, waiting = set(), [last]
    while waiting:
        number = waiting.pop()
        found.add(number)
        if steps[number][0] == "met":
            waiting.extend(set(steps[number][1:3]) - found)
    return found


def ways_on(steps):
    """For each step the steps that lean on it, with the literal that they meet on."""
    users = [[] for _ in steps]
    for number, step in enumerate(steps):
        if step[0] == "met":
            users[step[1]].append((number, (step[3], True)))
            users[step[2]].append((number, (step[3], False)))
    return users


def met_again(told):
    """For each step of a trimmed Chain the literals met on each way to the last step, or in the last clause."""
    users = ways_on(told.steps())
    again = {len(told) - 1: set(told.last())}
    for number in reversed(range(len(told) - 1)):
        again[number] = set.intersection(*[again[user] | {literal} for user, literal in users[number]])
    return again


def last_without(steps, left_out, taken):
    """The last clause where a step is taken for a meeting, and whether a name comes to stand both ways."""
    rows = []
    for number, step in enumerate(steps):
        if number == left_out:
            rows.append(rows[taken])
        elif step[0] == "given":
            rows.append((set(step[1]), False))
        else:
            _, i, j, name = step
            (first, first_wrong), (second, second_wrong) = rows[i], rows[j]
            met = (first - {(name, True)}) | (second - {(name, False)})
            wrong = any((told, not yes) in met for told, yes in met)
            if (name, True) not in first:
                rows.append(rows[i])
            elif (name, False) not in second:
                rows.append(rows[j])
            else:
                rows.append((met, wrong or first_wrong or second_wrong))
    return rows[-1]


class Turned(unittest.TestCase):

    def assert_turned(self, told, turned):
        """It comes to the last clause or a part, of no more steps, of given clauses that were given."""
        self.assertIs(Chain, type(turned))
        self.assertLessEqual(set(turned.last()), set(told.last()))
        self.assertLessEqual(set(turned.givens()), set(told.givens()))
        self.assertLessEqual(len(turned), len(told))
        self.assertEqual(set(range(len(turned))), leant_on(turned.steps(), len(turned) - 1))


class Trimmed(Turned):

    def test_steps_on_which_the_last_one_does_not_lean(self):
        told = chain("c, a b, d, -a b, = 1 3 a, e -b, -b, = 4 6 b, = 4 5 b, -e, = 8 9 e")
        turned = trimmed(told)
        self.assertEqual(chain("a b, -a b, = 0 1 a, e -b, = 2 3 b, -e, = 4 5 e").steps(), turned.steps())
        self.assertEqual(turned, trimmed(turned))

    def test_such_as_stand_just_ahead_of_the_last_one(self):
        self.assertEqual(chain("a").steps(), trimmed(chain("b, -b, = 0 1 b, a")).steps())
        self.assertEqual(chain("a, -a, = 0 1 a").steps(), trimmed(chain("a, -a, b, c, = 0 1 a")).steps())

    def test_all_are_used(self):
        for text in ("a", ".", "a, -a, = 0 1 a", "a b, -a b, = 0 1 a, -b, = 2 3 b"):
            self.assertEqual(chain(text), trimmed(chain(text)))

    def test_alike_steps_stay(self):
        told = chain("a, a, -a, = 0 2 a, = 1 2 a")
        self.assertEqual(chain("a, -a, = 0 1 a").steps(), trimmed(told).steps())
        twice = chain("a b, a c, -a, = 0 2 a, -a, = 1 4 a, -b -c, = 3 6 b, = 5 7 c")
        self.assertEqual(twice, trimmed(twice))

    def test_chains_of_several_kinds(self):
        for told in some_chains():
            kept = told.steps()
            turned = trimmed(told)
            self.assert_turned(told, turned)
            self.assertEqual(told.last(), turned.last())
            numbers = sorted(leant_on(kept, len(told) - 1))
            self.assertEqual([told.clauses()[number] for number in numbers], turned.clauses())
            self.assertEqual([kept[number][3:] for number in numbers], [step[3:] for step in turned.steps()])
            self.assertEqual(turned, trimmed(turned))
            self.assertEqual(kept, told.steps())


class Shared(Turned):

    def test_a_given_clause_again(self):
        told = chain("a b, -a, = 0 1 a, a b, -b, = 3 4 b, -a, = 5 6 a")
        self.assertEqual(chain("a b, -a, -b, = 0 2 b, = 3 1 a").steps(), shared(told).steps())

    def test_a_clause_met_and_told_again_several_times(self):
        told = chain("b, a b, -a b, = 1 2 a, b, -b c, = 3 5 b, -b -c, = 4 7 b, = 6 8 c")
        self.assertEqual(chain("b, -b c, = 0 1 b, -b -c, = 0 3 b, = 2 4 c").steps(), shared(told).steps())
        again = chain("a b, -a b, = 0 1 a, b, b, -b, = 4 5 b")
        self.assertEqual(chain("a b, -a b, = 0 1 a, -b, = 2 3 b").steps(), shared(again).steps())

    def test_the_last_one_was_there(self):
        told = chain("a, -a, = 0 1 a, b, -b, = 3 4 b")
        self.assertEqual(chain("a, -a, = 0 1 a").steps(), shared(told).steps())
        self.assertEqual(chain("a").steps(), shared(chain("b, a, c, a")).steps())

    def test_chains_of_several_kinds(self):
        for told in some_chains():
            kept = told.steps()
            turned = shared(told)
            self.assert_turned(told, turned)
            self.assertEqual(told.last(), turned.last())
            self.assertEqual(len(turned), len(set(turned.clauses())))
            self.assertEqual(turned, shared(turned))
            self.assertEqual(kept, told.steps())
            first = [told.clauses().index(row) for row in told.clauses()]
            order = [told.clauses().index(row) for row in turned.clauses()]
            self.assertEqual(sorted(order), order)
            for step, number in zip(turned.steps(), order):
                if step[0] == "met":
                    self.assertEqual([first[place] for place in kept[number][1:3]], [order[k] for k in step[1:3]])


class Lightened(Turned):

    def assert_light(self, told):
        kept = told.steps()
        turned = lightened(told)
        self.assert_turned(told, turned)
        self.assertEqual(turned, lightened(turned))
        self.assertEqual(turned, lightened(told))
        self.assertEqual(kept, told.steps())
        steps, again = turned.steps(), met_again(turned)
        for number, step in enumerate(steps):
            if step[0] == "met":
                for literal, ahead in (((step[3], True), step[1]), ((step[3], False), step[2])):
                    if literal in again[number]:
                        self.assertTrue(last_without(steps, number, ahead)[1], (str(turned), number))
        return turned

    def test_a_name_met_again_by_the_same_sign(self):
        # a is met on at 2, though it is met on again at 6 by the same sign.
        told = chain("a b, -a c, = 0 1 a, -b a, = 2 3 b, -c a, = 4 5 c, -a, = 6 7 a")
        turned = self.assert_light(told)
        self.assertEqual((), turned.last())
        self.assertEqual(chain("a b, a -b, = 0 1 b, -a, = 2 3 a").steps(), turned.steps())
        denied = chain("-a c, a b, = 1 0 a, -b -a, = 2 3 b, -c -a, = 4 5 c, a, = 7 6 a")
        self.assertEqual(chain("-a c, -a -c, = 0 1 c, a, = 3 2 a").steps(), self.assert_light(denied).steps())

    def test_a_name_met_again_by_the_other_sign_alone(self):
        told = chain("a b, -a c, = 0 1 a, -c -a, = 2 3 c, -b -a, = 4 5 b, a, = 7 6 a")
        turned = self.assert_light(told)
        self.assertEqual(chain("-a c, -a -c, = 0 1 c, a, = 3 2 a").steps(), turned.steps())

    def test_its_literal_in_the_last_clause(self):
        told = chain("a b, -a c, = 0 1 a, -b a, = 2 3 b")
        self.assertEqual(clause("a c"), told.last())
        self.assertEqual(chain("a b, a -b, = 0 1 b").steps(), self.assert_light(told).steps())
        told = chain("a b, -a c, = 0 1 a, -b -a, = 2 3 b")
        self.assertEqual(chain("-a c").steps(), self.assert_light(told).steps())

    def test_leaned_on_by_several_ways(self):
        # What is met at 2 is met with d and with -d, and a again behind both.
        told = chain("a b, -a c, = 0 1 a, -b d a, -b -d a, = 2 3 b, = 2 4 b, = 5 6 d, -c, = 7 8 c, -a, = 9 10 a")
        self.assertEqual(clause("b c"), told.clauses()[2])
        turned = self.assert_light(told)
        self.assertEqual(chain("a b, a -b d, a -b -d, = 0 1 b, = 0 2 b, = 3 4 d, -a, = 5 6 a").steps(), turned.steps())

    def test_met_again_on_one_of_two_ways_alone(self):
        # Behind 2 it is met on again by -b a, and not by b d: it stays.
        told = chain("a b, -a b, = 0 1 a, -b c a, = 2 3 b, -a c, = 4 5 a, -b -c, = 2 7 b, = 6 8 c")
        self.assertEqual((), told.last())
        self.assertEqual(told, self.assert_light(told))

    def test_where_a_name_would_stand_both_ways(self):
        # a is met on again with the same sign at the end, and with the other one between.
        told = chain("a b, -a c, = 0 1 a, -a -b, = 2 3 b, a d, = 5 4 a, -d a, = 6 7 d, -c a, = 8 9 c, -a, = 10 11 a")
        self.assertEqual((), told.last())
        turned = self.assert_light(told)
        self.assertEqual((), turned.last())
        self.assertLess(len(turned), len(told))

    def test_none_is_needless(self):
        for text in (".", "a", "a, -a, = 0 1 a", "a b, -a b, = 0 1 a, -b, = 2 3 b",
                     "a b, -a b, = 0 1 a, a -b, -a -b, = 3 4 a, = 2 5 b"):
            self.assertEqual(chain(text), self.assert_light(chain(text)))

    def test_gone_on_with_until_nothing_changes(self):
        lighter = 0
        for told in some_chains():
            turned = self.assert_light(told)
            lighter += len(turned) < len(trimmed(told))
        self.assertGreater(lighter, 50)

    def test_one_that_is_told_with_many_steps(self):
        _, told = search(pigeons(6, 5))
        self.assertEqual((), self.assert_light(told).last())
        for seed in range(3):
            self.assert_light(some_chain(seed, list("abcdefgh"), 3000))


class Joined(unittest.TestCase):

    def test_one_behind_the_other(self):
        first, second = chain("a b, -b, = 0 1 b"), chain("c, -c -a, = 0 1 c")
        told = joined(first, second, "a")
        self.assertEqual(chain("a b, -b, = 0 1 b, c, -c -a, = 3 4 c, = 2 5 a").steps(), told.steps())
        self.assertEqual((), told.last())
        self.assertEqual(chain("a b, -b, = 0 1 b"), first)
        self.assertEqual(chain("c, -c -a, = 0 1 c"), second)

    def test_steps_that_are_not_used_stay(self):
        told = joined(chain("b, a c"), chain("b, c, -a d"), "a")
        self.assertEqual(chain("b, a c, b, c, -a d, = 1 4 a").steps(), told.steps())
        self.assertEqual(clause("c d"), told.last())

    def test_refused(self):
        for first, second, name in (("a", "b", "c"), ("a", "b", "a"), ("b", "-a", "a"), ("-a", "a", "a"),
                                    ("a", "a", "a"), ("-a", "-a", "a"), ("a b", "-a -b", "a"), (".", ".", "a"),
                                    ("a", "-a", "A"), ("a", "-a", "")):
            with self.assertRaises(NoChain) as caught:
                joined(chain(first), chain(second), name)
            self.assertIsInstance(caught.exception, ValueError)
            self.assertIs(str, type(caught.exception.why))

    def test_chains_of_several_kinds(self):
        told = 0
        for seed in range(0, 120, 2):
            first, second = some_chain(seed, list("abc"), 9), some_chain(seed + 1, list("abc"), 9)
            for name in ("a", "b", "c"):
                rest = {literal for literal in first.last() + second.last() if literal[0] != name}
                meets = (name, True) in first.last() and (name, False) in second.last()
                if meets and len({other for other, _ in rest}) == len(rest):
                    both = joined(first, second, name)
                    self.assertEqual(first.clauses() + second.clauses() + [tuple(sorted(rest))], both.clauses())
                    told += 1
                else:
                    self.assertRaises(NoChain, joined, first, second, name)
        self.assertGreater(told, 5)


class PutIn(Turned):

    def test_a_part_of_one_given_clause(self):
        told = put_in(chain("a b, -a, = 0 1 a"), chain("a b c, -c, = 0 1 c"))
        self.assertEqual(chain("a b c, -c, = 0 1 c, -a, = 2 3 a").steps(), told.steps())

    def test_a_part_of_several(self):
        told = put_in(chain("a b, -b c, a c, -c, = 2 3 c, = 1 3 c, -a, = 4 6 a"), chain("a d, -d, = 0 1 d"))
        self.assertEqual(chain("a d, -d, = 0 1 d, -a, = 2 3 a").steps(), told.steps())
        told = chain("d a, -d c, = 0 1 d, -a, = 2 3 a, d b, -d -c, = 5 6 d, -b, = 7 8 b, = 4 9 c")
        self.assertEqual(chain("d, -d c, = 0 1 d, -d -c, = 0 3 d, = 2 4 c").steps(), put_in(told, chain("d")).steps())

    def test_of_none(self):
        for first, second in (("a", "b"), ("a", "-a"), ("a", "a b"), ("a b, -a c, = 0 1 a", "d"), ("., a", "b"),
                              ("a -b, b c, = 1 0 b", "a c")):
            with self.assertRaises(NoChain) as caught:
                put_in(chain(first), chain(second))
            self.assertIsInstance(caught.exception, ValueError)
            self.assertIs(str, type(caught.exception.why))

    def test_a_meeting_finds_its_literal_no_more_on_its_first_side(self):
        self.assertEqual(chain("b"), put_in(chain("a b, -a c, = 0 1 a"), chain("b")))
        told = chain("a d e, -a b d, = 0 1 a, -d, = 2 3 d, -b, = 4 5 b, -e, = 6 7 e")
        self.assertEqual(chain("e, -e, = 0 1 e"), put_in(told, chain("e")))

    def test_on_its_second_side(self):
        self.assertEqual(chain("c"), put_in(chain("a b, -a c, = 0 1 a"), chain("c")))
        told = chain("a d e, -a b d, = 0 1 a, -d, = 2 3 d, -b, = 4 5 b, -e, = 6 7 e")
        self.assertEqual(chain("b, -b, = 0 1 b"), put_in(told, chain("b")))

    def test_on_both_where_the_first_one_is_taken(self):
        self.assertEqual(chain("d"), put_in(chain("a b d, -a d, = 0 1 a"), chain("d")))
        told = chain("a d, -d e, = 0 1 d, -a d, -d f, = 3 4 d, = 2 5 a")
        self.assertEqual(clause("e f"), told.last())
        self.assertEqual(chain("d, -d e, = 0 1 d").steps(), put_in(told, chain("d")).steps())

    def test_the_empty_clause_is_a_part_of_each(self):
        told = put_in(chain("a b, -a, = 0 1 a"), chain("c, -c, = 0 1 c"))
        self.assertEqual(chain("c, -c, = 0 1 c"), told)

    def test_of_one_that_the_last_one_does_not_need(self):
        self.assertEqual(chain("c"), put_in(chain("a b, c"), chain("a")))

    def test_chains_of_several_kinds(self):
        told = refused = 0
        for seed in range(0, 300, 2):
            first, second = some_chain(seed, list("abcd"), 30), some_chain(seed + 1, list("abcd"), 6)
            kept = first.steps(), second.steps()
            if any(set(second.last()) <= set(row) for row in first.givens()):
                turned = put_in(first, second)
                self.assertLessEqual(set(turned.last()), set(first.last()))
                known = set(second.givens()) | {row for row in first.givens() if not set(second.last()) <= set(row)}
                self.assertLessEqual(set(turned.givens()), known)
                self.assertLessEqual(len(turned), len(first) + len(second))
                self.assertEqual(turned, trimmed(turned))
                told += 1
            else:
                self.assertRaises(NoChain, put_in, first, second)
                refused += 1
            self.assertEqual(kept, (first.steps(), second.steps()))
        self.assertGreater(min(told, refused), 10)

    def test_the_others_steps_ahead_in_their_order(self):
        told = put_in(chain("-a, a -b, b d, -d, = 2 3 d, = 4 1 b, = 5 0 a"), chain("b c, -c, = 0 1 c"))
        self.assertEqual(chain("b c, -c, = 0 1 c, -a, a -b, = 2 4 b, = 5 3 a").steps(), told.steps())


if __name__ == "__main__":
    unittest.main()
