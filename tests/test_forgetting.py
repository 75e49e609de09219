"""Names forgotten, the strongest and the weakest middle: promise 27, and 3 as far as it speaks of names forgotten."""

import unittest
from itertools import count
from random import Random

from middlesay.chains import Chain, comes_to
from middlesay.deciding import decided
from middlesay.errors import NoName, TooGreat
from middlesay.forgetting import forgotten, strongest, weakest
from middlesay.literals import is_clause, is_part
from middlesay.middles import Middle
from middlesay.sayings import is_saying, names_of
from middlesay.shaping import parts_in
from middlesay.tables import table
from tests.chaining import (
    clause, clauses, is_plainly_true, names_of_clauses, pigeons, some_clashes, some_clauses, truths_of,
)
from tests.helping import rows_of, some_sayings
from tests.siding import MARKS, ONE, OTHER, some_sides

SEVEN = list("abcdefg")


def fan(ours, theirs):
    """So many clauses in which a stands, and so many in which it is denied, all else unlike."""
    return [clause(f"a {word('b', number)}") for number in range(ours)] + [
        clause(f"-a {word('c', number)}") for number in range(theirs)]


def word(letter, number):
    return letter + "abcdef"[number // 6] + "uvwxyz"[number % 6]


class Told(unittest.TestCase):

    def assert_forgotten(self, rows, names, **more):
        kept = list(rows), list(names)
        told = forgotten(rows, names, **more)
        self.assertEqual(kept, (list(rows), list(names)))
        self.assertIs(list, type(told))
        without = [row for row, _ in told]
        self.assertEqual(sorted(set(without)), without)
        for pair in told:
            self.assertIs(tuple, type(pair))
            row, paper = pair
            self.assertIs(is_clause(row), True)
            self.assertIs(Chain, type(paper))
            self.assertTrue(comes_to(paper, rows, row))
            self.assertEqual([], [other for other in without if other != row and is_part(other, row)])
        self.assertEqual(set(), set(names_of_clauses(without)) & set(names))
        self.assertEqual(told, forgotten(rows, names, **more))
        return without

    def assert_same_rows(self, rows, names, without):
        """A row of the other names makes all true just where some row of the forgotten ones goes on so."""
        all_names = names_of_clauses(rows)
        others = [name for name in all_names if name not in names]
        going_on = {tuple(row[name] for name in others) for row in rows_of(all_names)
                    if all(is_plainly_true(held, row) for held in rows)}
        for row in rows_of(others):
            goes_on = tuple(row[name] for name in others) in going_on
            self.assertEqual(goes_on, all(is_plainly_true(held, row) for held in without))

    def assert_too_great(self, most, told):
        with self.assertRaises(TooGreat) as caught:
            told()
        self.assertEqual(most, caught.exception.most)


class Forgotten(Told):

    def test_none_one_several_all(self):
        rows = clauses("a b, -a c, -b d, -c d e, b c")
        for names, without in (("", rows), ("a", clauses("b c, -b d, -c d e")), ("ab", clauses("-c d e, c d")),
                               ("bc", clauses("a d, d e")), ("abcde", []), ("e", clauses("a b, -a c, -b d, b c"))):
            told = self.assert_forgotten(rows, list(names))
            self.assert_same_rows(rows, list(names), told)
            self.assertEqual(sorted(without), told)

    def test_the_empty_list_and_the_empty_clause(self):
        for names in ([], ["a"], ["a", "b", "m0"]):
            self.assertEqual([], self.assert_forgotten([], names))
            self.assertEqual([()], self.assert_forgotten([()], names))
            self.assertEqual([()], self.assert_forgotten(clauses("a b, ., -c"), names))
        self.assertEqual([()], self.assert_forgotten(clauses("a, -a"), ["a"]))
        self.assertEqual([()], self.assert_forgotten(clauses("a, -a b, -b"), ["b", "a"]))

    def test_names_of_no_clause_and_names_again_are_passed_by(self):
        rows = clauses("a b, -a c, m0 -b")
        plain = self.assert_forgotten(rows, ["a", "b"])
        self.assertEqual(plain, self.assert_forgotten(rows, ["zz", "a", "b", "b", "m1", "a", "x", "a"]))
        self.assertEqual(sorted(rows), self.assert_forgotten(rows, ["zz", "x", "zz"]))

    def test_alike_clauses_and_parts_of_others(self):
        rows = clauses("a b, a b, a b c, -d, a b, -d e, a")
        self.assertEqual(clauses("a, -d"), self.assert_forgotten(rows, []))
        self.assertEqual(clauses("-d"), self.assert_forgotten(rows, ["a"]))

    def test_a_clause_that_is_met_to_be_always_true_isnt_told(self):
        self.assertEqual([], self.assert_forgotten(clauses("a b, -a -b"), ["a"]))
        self.assertEqual(clauses("-b c"), self.assert_forgotten(clauses("a b, -a -b, -b c"), ["a"]))

    def test_clauses_of_several_kinds(self):
        for number in range(400):
            chance = Random(number)
            names = SEVEN[:1 + number % 7]
            rows = some_clauses(chance, names, chance.randint(0, 14), least=number % 2)
            forgot = [name for name in names if chance.random() < 0.5]
            self.assert_same_rows(rows, forgot, self.assert_forgotten(rows, forgot))

    def test_of_five_names_never_at_400(self):
        names = list("abcde")
        for number in range(40):
            chance = Random(900 + number)
            rows = some_clauses(chance, names, 200, most=2 + number % 4)[:200]
            for forgot in ([], names[:1], names[:2], names[1:], names):
                self.assert_same_rows(rows, forgot, self.assert_forgotten(rows, forgot))

    def test_of_sixty_four_clauses_never_where_no_name_is_forgotten(self):
        rows = clauses(", ".join(f"a{number} b{number}" for number in range(64)))
        self.assertEqual(sorted(rows), self.assert_forgotten(rows, ["x"]))

    def test_of_ten_clauses_never_where_one_is(self):
        for ours in range(11):
            self.assertEqual(ours * (10 - ours), len(self.assert_forgotten(fan(ours, 10 - ours), ["a"])))

    def test_one_name_at_the_product(self):
        for ours, theirs in ((0, 0), (1, 0), (0, 3), (1, 1), (2, 3), (7, 7), (14, 3), (25, 30)):
            rows = fan(ours, theirs) if ours + theirs else []
            most = (ours + 1) * (theirs + 1)
            self.assertEqual(ours * theirs, len(self.assert_forgotten(rows, ["a"], most=most)))

    def test_refused_where_there_come_more(self):
        rows = fan(25, 30)
        self.assert_too_great(400, lambda: forgotten(rows, ["a"]))
        self.assert_too_great(400, lambda: forgotten(rows, ["a"], most=400))
        self.assert_too_great(749, lambda: forgotten(rows, ["a"], most=749))
        self.assertEqual(750, len(forgotten(rows, ["a"], most=750)))
        self.assert_too_great(9, lambda: forgotten(fan(5, 5), [], most=9))
        self.assertEqual(sorted(fan(5, 5)), self.assert_forgotten(fan(5, 5), [], most=10))

    def test_with_a_greater_most_nothing_is_refused_that_wasnt_ahead(self):
        for rows, names in ((fan(4, 5), ["a"]), (pigeons(4, 3), [f"a{number}" for number in range(3)]),
                            (pigeons(4, 3), names_of_clauses(pigeons(4, 3))[:7])):
            least = next(most for most in count() if self.is_told(rows, names, most))
            plain = self.assert_forgotten(rows, names, most=least)
            self.assertLessEqual(len(plain), least)
            for most in range(least, least + 60):
                self.assertEqual(plain, self.assert_forgotten(rows, names, most=most))

    def is_told(self, rows, names, most):
        try:
            forgotten(rows, names, most=most)
        except TooGreat as refused:
            self.assertEqual(most, refused.most)
            self.assertIsInstance(refused, OverflowError)
            return False
        return True

    def test_of_great_ones(self):
        for things in (4, 5, 6):
            rows = pigeons(things, things - 1)
            self.assertEqual([()], self.assert_forgotten(rows, names_of_clauses(rows), most=4000))

    def test_of_what_is_told(self):
        for number in range(60):
            sayings = some_sayings(number, 4, list("abc"), 4)
            told = decided(sayings[:2], sayings[2:])
            if told[0] == "clash":
                rows = told[1] + told[2] + [clause("a"), clause("-oneab7")]
                fresh = [name for name in names_of_clauses(rows) if name not in "abc"]
                self.assertEqual([()], self.assert_forgotten(rows, fresh + list("abc")))

    def test_new_each_time(self):
        rows = clauses("a b, -a c")
        forgotten(rows, ["a"]).clear()
        self.assertEqual(clauses("b c"), self.assert_forgotten(rows, ["a"]))


class Extremes(Told):

    def assert_extremes(self, one, other):
        kept = list(one), list(other)
        shared = set(names_of_clauses(one)) & set(names_of_clauses(other))
        strong, weak = strongest(one, other), weakest(one, other)
        self.assertEqual((strong, weak), (strongest(one, other), weakest(one, other)))
        self.assertEqual(kept, (one, other))
        for saying in (strong, weak):
            self.assertIs(is_saying(saying), True)
            self.assertLessEqual(set(names_of(saying)), shared)
        self.assert_table(strong, one, shared, True)
        self.assert_table(weak, other, shared, False)
        return strong, weak

    def assert_table(self, saying, rows, shared, yes):
        """It holds just in those rows that some row of the other names goes on to make all clauses true, or doesn't."""
        names = sorted(shared)
        others = [name for name in names_of_clauses(rows) if name not in shared]
        all_names = names + others
        held = {number & ((1 << len(names)) - 1) for number in truths_of(rows, all_names)}
        told = table(saying, names)
        for number in range(1 << len(names)):
            self.assertEqual((number in held) == yes, bool(told >> number & 1))

    def test_of_plain_sides(self):
        self.assertEqual((("name", "b"), ("name", "b")), self.assert_extremes(ONE, OTHER))
        strong, weak = self.assert_extremes(clauses("a x, -x b"), clauses("-a y, -b y, -y"))
        self.assertEqual((14, 14), (table(strong, ["a", "b"]), table(weak, ["a", "b"])))
        strong, weak = self.assert_extremes(clauses("a, b"), clauses("-a, -b c, b c, -c"))
        self.assertEqual((8, 15), (table(strong, ["a", "b"]), table(weak, ["a", "b"])))

    def test_of_bare_sides_and_none_shared(self):
        for one, other in (([], []), ([()], []), ([], [()]), (clauses("a"), clauses("b")), ([()], [()]),
                           (clauses("a, -a"), clauses("b"))):
            strong, weak = self.assert_extremes(one, other)
            self.assertEqual([], names_of(strong) + names_of(weak))

    def test_sides_that_dont_clash(self):
        for number in range(120):
            chance = Random(number)
            one = some_clauses(chance, list("abcdx"), chance.randint(0, 8))
            other = some_clauses(chance, list("abcdy"), chance.randint(0, 8))
            self.assert_extremes(one, other)

    def test_each_middle_lies_between(self):
        for told, one, other, way, marks in some_sides():
            strong, weak = self.assert_extremes(one, other)
            names = names_of_clauses(told.givens())
            middles = [Middle(told, one, other, way=way, marks=marks)]
            middles += [Middle(told, one, other, way=mark) for mark in MARKS]
            for middle in middles:
                rows = table(middle.saying(), names)
                self.assertEqual(0, table(strong, names) & ~rows)
                self.assertEqual(0, rows & ~table(weak, names))

    def test_of_six_shared_names_never_too_great(self):
        names = list("abcdef")
        for number in range(60):
            chance = Random(number)
            one = some_clauses(chance, names, 10 + number, most=6)
            other = some_clauses(chance, names, 10 + number, most=6)
            for saying in (strongest(one, other), weakest(one, other)):
                self.assertLessEqual(parts_in(saying), 400)
                self.assertIs(is_saying(saying), True)

    def test_of_many_shared_names(self):
        one = clauses(", ".join(f"{name}{name} -{name}" for name in "abcdefghijklmnop"))
        other = clauses(", ".join(f"-{name}{name} {name}" for name in "abcdefghijklmnop"))
        self.assertEqual(32, len(names_of(strongest(one, other))))
        self.assertEqual(32, len(names_of(weakest(one, other))))

    def test_no_name(self):
        for one, other, name in (("a m0, b", "-m0 b, c1 -a", "m0"), ("z9 a2, c", "-a2, -z9", "a2"),
                                 ("m0, -m0, x", "x, m0", "m0")):
            for told in (strongest, weakest):
                with self.assertRaises(NoName) as caught:
                    told(clauses(one), clauses(other))
                self.assertEqual(name, caught.exception.name)
                self.assertIsInstance(caught.exception, KeyError)

    def test_fresh_names_of_one_side_alone_are_none(self):
        told = decided([("or", ("name", "a"), ("name", "b"))], [("not", ("or", ("name", "b"), ("name", "a")))])
        self.assertEqual(("or", ("name", "b"), ("name", "a")), self.assert_extremes(told[1], told[2])[0])

    def test_the_name_goes_ahead_of_too_great(self):
        one = fan(25, 30)
        other = [(literal,) for row in one for literal in row if literal[0] != "a"]
        for most in (30, 400):
            self.assert_too_great(most, lambda: strongest(one, other, most=most))
            self.assert_too_great(most, lambda: weakest(other, one, most=most))
        self.assert_too_great(400, lambda: strongest(one, other))
        for told, sides in ((strongest, (one + clauses("m0"), other + clauses("-m0"))),
                            (weakest, (other + clauses("m0"), one + clauses("-m0")))):
            with self.assertRaises(NoName):
                told(*sides)

    def test_too_great_as_a_saying(self):
        # Each name with each other one, of many: more parts than a saying may have.
        names = [f"{first}{second}" for first in "abcde" for second in "vwxyz"]
        rows = [tuple(sorted([(one, True), (two, True)])) for one in names for two in names if one < two]
        other = [((name, False),) for name in names]
        self.assert_too_great(400, lambda: strongest(rows, other, most=1000))
        self.assert_too_great(400, lambda: weakest(other, rows, most=1000))
        self.assert_too_great(100, lambda: strongest(rows, other, most=100))

    def test_clashing_ones_of_chance(self):
        for told in some_clashes()[:40]:
            rows = told.givens()
            half = len(rows) // 2
            self.assert_extremes(rows[:half], rows[half:])


if __name__ == "__main__":
    unittest.main()
