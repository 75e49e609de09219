"""Tree chains: promise 18."""

import unittest

from middlesay.chains import Chain
from middlesay.errors import TooGreat
from middlesay.search import search
from middlesay.trees import chain_of_tree, tree_of
from middlesay.unfolding import is_tree_chain, regular, unfolded
from tests.chaining import chain, clause, meetings_unfolded, pigeons, some_chain, some_chains, some_clashes

TWICE = chain("a b, -a b, = 0 1 a, -b c, = 2 3 b, -b -c, = 2 5 b, = 4 6 c")


def doubling(count):
    """A Chain in which each but the first is used twice by what comes next: so 2 to the count uses of the first."""
    steps = [("given", clause("a"))]
    for number in range(count):
        at = len(steps) - 1
        steps += [("given", clause(f"-a b{number} c{number}")), ("met", at, at + 1, "a"),
                  ("given", clause(f"-b{number} a")), ("met", at + 2, at + 3, f"b{number}"),
                  ("given", clause(f"-c{number} d{number}")), ("met", at + 4, at + 5, f"c{number}"),
                  ("given", clause(f"-a -d{number}")), ("met", at, at + 7, "a"), ("met", at + 6, at + 8, f"d{number}")]
    return Chain(steps)


def names_met_twice(told):
    """The names that are met twice on some way to the last step."""
    steps, found = told.steps(), set()
    waiting = [(len(steps) - 1, frozenset())]
    while waiting:
        number, met = waiting.pop()
        if steps[number][0] == "met":
            _, i, j, name = steps[number]
            found |= met & {name}
            waiting += [(i, met | {name}), (j, met | {name})]
    return found


class TreeChain(unittest.TestCase):

    def test_each_step_but_the_last_used_just_once(self):
        for text in ("a, -a, = 0 1 a", "a b, -a b, = 0 1 a, -b, = 2 3 b", "-b, a b, -a b, = 1 2 a, = 3 0 b",
                     "a b, a -b, = 0 1 b, -a c, -a -c, = 3 4 c, = 2 5 a", "a b, -b, = 0 1 b, -a c, a b, = 4 3 a, -b"
                     ", = 5 6 b, -c a, = 7 8 c, -a, = 9 10 a"):
            told = chain(text)
            used = [number for step in told.steps() if step[0] == "met" for number in step[1:3]]
            self.assertIs(is_tree_chain(told), sorted(used) == list(range(len(told) - 1)))
        self.assertIs(is_tree_chain(chain("a, -a, = 0 1 a")), True)

    def test_one_step_alone(self):
        self.assertIs(is_tree_chain(chain(".")), True)
        self.assertIs(is_tree_chain(chain("a -b")), True)

    def test_a_step_used_twice(self):
        self.assertIs(is_tree_chain(TWICE), False)
        self.assertIs(is_tree_chain(chain("a b, -b, = 0 1 b, -a -b, = 2 3 a, b, = 5 4 b")), True)
        self.assertIs(is_tree_chain(chain("a b, -a b, = 0 1 a, -b a, = 2 3 b, -b -a, = 2 5 b, = 4 6 a")), False)

    def test_a_step_not_used(self):
        self.assertIs(is_tree_chain(chain("a, b")), False)
        self.assertIs(is_tree_chain(chain("b, a, -a, = 1 2 a")), False)
        self.assertIs(is_tree_chain(chain("a, -a, b, = 0 1 a")), False)
        self.assertIs(is_tree_chain(chain("a, -a, = 0 1 a, = 0 1 a")), False)


class Unfolded(unittest.TestCase):

    def assert_unfolded(self, told, **most):
        kept = told.steps()
        turned = unfolded(told, **most)
        self.assertIs(Chain, type(turned))
        self.assertIs(is_tree_chain(turned), True)
        self.assertEqual(told.last(), turned.last())
        self.assertLessEqual(set(turned.givens()), set(told.givens()))
        self.assertEqual(2 * meetings_unfolded(told) + 1, len(turned))
        self.assertEqual(kept, told.steps())
        self.assertEqual(turned, unfolded(told, **most))
        self.assertEqual(turned, unfolded(turned, **most))
        return turned

    def test_each_use_told_anew(self):
        turned = self.assert_unfolded(TWICE)
        self.assertEqual(11, len(turned))
        self.assertEqual(sorted(TWICE.clauses() + TWICE.clauses()[:3]), sorted(turned.clauses()))

    def test_steps_that_are_not_needed_are_gone(self):
        turned = self.assert_unfolded(chain("c, a b, -b, b, = 1 2 b, -c"))
        self.assertEqual(chain("-c"), turned)
        turned = self.assert_unfolded(chain("c, a b, -b, b, = 1 2 b"))
        self.assertEqual(chain("a b, -b, = 0 1 b"), turned)

    def test_tree_chains_and_one_step(self):
        for text in ("a", ".", "a b, -a b, = 0 1 a, -b, = 2 3 b"):
            self.assertEqual(len(chain(text)), len(self.assert_unfolded(chain(text))))

    def test_chains_of_several_kinds(self):
        for told in some_chains():
            if meetings_unfolded(told) <= 1000:
                self.assert_unfolded(told)
            self.assert_unfolded(some_chain(len(told), list("abc"), 12), most=10 ** 5)

    def test_of_what_search_tells(self):
        for things in range(2, 6):
            self.assert_unfolded(search(pigeons(things, things - 1))[1])

    def test_too_great(self):
        for told in (TWICE, doubling(4), doubling(5)):
            steps = 2 * meetings_unfolded(told) + 1
            for most in (0, 1, steps // 2, steps - 1):
                with self.assertRaises(TooGreat) as caught:
                    unfolded(told, most=most)
                self.assertEqual(most, caught.exception.most)
                self.assertIsInstance(caught.exception, OverflowError)
            turned = self.assert_unfolded(told, most=steps)
            self.assertEqual(turned, unfolded(told, most=steps + 1))
            self.assertEqual(turned, unfolded(told, most=10 ** 9))

    def test_four_thousand_where_it_is_left_out(self):
        told = doubling(8)
        self.assertLess(2 * meetings_unfolded(told) + 1, 4000)
        self.assert_unfolded(told)
        for told in (doubling(9), doubling(33)):
            self.assertGreater(2 * meetings_unfolded(told) + 1, 4000)
            with self.assertRaises(TooGreat) as caught:
                unfolded(told)
            self.assertEqual(4000, caught.exception.most)
        self.assertEqual(3999, len(unfolded(doubling_row(1999))))
        self.assertEqual(4001, len(unfolded(doubling_row(2000), most=4001)))
        self.assertRaises(TooGreat, unfolded, doubling_row(2000))
        self.assertRaises(TypeError, unfolded, TWICE, 4000)


def doubling_row(count):
    """A tree chain with so many meetings, one behind the other."""
    steps = [("given", clause("a0"))]
    for number in range(count):
        steps += [("given", clause(f"-a{number} a{number + 1}")),
                  ("met", len(steps) - 1, len(steps), f"a{number}")]
    return Chain(steps)


class Regular(unittest.TestCase):

    def assert_regular(self, told):
        self.assertIs(is_tree_chain(told), True)
        kept = told.steps()
        turned = regular(told)
        self.assertIs(is_tree_chain(turned), True)
        self.assertEqual(set(), names_met_twice(turned))
        self.assertLessEqual(len(turned), len(told))
        self.assertLessEqual(set(turned.last()), set(told.last()))
        self.assertLessEqual(set(turned.givens()), set(told.givens()))
        self.assertEqual(turned, regular(turned))
        self.assertEqual(kept, told.steps())
        if not names_met_twice(told):
            self.assertEqual(told, turned)
        return turned

    def test_a_name_met_twice(self):
        told = chain("a b, -a c, = 0 1 a, -b a, = 2 3 b, -c a, = 4 5 c, -a, = 6 7 a")
        self.assertEqual(chain("a b, -b a, = 0 1 b, -a, = 2 3 a"), self.assert_regular(told))
        told = chain("a b, -a c, = 0 1 a, -b -a, = 2 3 b, -c -a, = 4 5 c, a, = 7 6 a")
        self.assertEqual(chain("-a c, -c -a, = 0 1 c, a, = 3 2 a"), self.assert_regular(told))

    def test_three_times_and_with_both_signs(self):
        told = chain("a b, -a c, = 0 1 a, -b -a, = 2 3 b, a d, = 5 4 a, -d a, = 6 7 d, -c a, = 8 9 c, -a, = 10 11 a")
        self.assertEqual((), told.last())
        self.assertEqual(chain("a d, -d a, = 0 1 d, -a, = 2 3 a"), self.assert_regular(told))

    def test_on_ways_of_their_own_a_name_may_be_met_twice(self):
        told = chain("a b c, -a b, = 0 1 a, a -b, -a -b, = 3 4 a, = 2 5 b, -c, = 6 7 c")
        self.assertEqual(told, self.assert_regular(told))

    def test_a_name_of_the_last_clause_may_be_met(self):
        told = chain("a b, -a c, = 0 1 a, -b a, = 2 3 b")
        self.assertEqual(told, self.assert_regular(told))

    def test_regular_ones_and_one_step(self):
        for text in (".", "a b", "a, -a, = 0 1 a", "a b, -a b, = 0 1 a, -b, = 2 3 b"):
            self.assertEqual(chain(text), self.assert_regular(chain(text)))
        self.assertEqual(doubling_row(700), self.assert_regular(doubling_row(700)))

    def test_chains_of_several_kinds(self):
        fewer = 0
        for told in some_chains():
            if meetings_unfolded(told) <= 1000:
                turned = unfolded(told)
                fewer += len(self.assert_regular(turned)) < len(turned)
        self.assertGreater(fewer, 20)

    def test_of_trees(self):
        for told in some_clashes()[:40]:
            turned = chain_of_tree(tree_of(told))
            self.assertEqual((), self.assert_regular(unfolded(turned)).last())


if __name__ == "__main__":
    unittest.main()
