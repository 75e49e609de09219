"""The search: promise 13."""

import unittest
from random import Random

from middlesay.chains import Chain, comes_to
from middlesay.errors import TooGreat
from middlesay.search import search
from tests.chaining import clause, clauses, is_plainly_true, names_of_clauses, pigeons, some_clauses, truths_of


def signs_of(names):
    """All clauses that have each of these names: 2 to their count, and each is needed."""
    rows = [()]
    for name in sorted(names):
        rows = [row + ((name, yes),) for row in rows for yes in (False, True)]
    return rows


class Search(unittest.TestCase):

    def assert_told(self, rows, **asked):
        kept = list(rows)
        told = search(rows, **asked)
        self.assertIs(tuple, type(told))
        self.assertEqual(2, len(told))
        self.assertEqual(kept, rows)
        self.assertEqual(told, search(rows, **asked))
        if told[0] == "row":
            self.assertEqual(names_of_clauses(rows), sorted(told[1]))
            self.assertEqual([], [row for row in rows if not is_plainly_true(row, told[1])])
            self.assertEqual(set(), {type(yes) for yes in told[1].values()} - {bool})
            self.assertIsNot(told[1], search(rows, **asked)[1])
        else:
            self.assertEqual("chain", told[0])
            self.assertIs(Chain, type(told[1]))
            self.assertTrue(comes_to(told[1], rows, ()))
        return told[0]

    def assert_too_great(self, rows, most, **asked):
        with self.assertRaises(TooGreat) as caught:
            search(rows, most=most, **asked)
        self.assertEqual(most, caught.exception.most)
        self.assertIsInstance(caught.exception, OverflowError)

    def test_none_at_all(self):
        self.assertEqual(("row", {}), search([]))
        self.assertEqual(("row", {}), search([], order=("a",), most=0))

    def test_the_empty_clause(self):
        for text in (".", "., .", "a, .", "a, -a, .", ".  , a b"):
            self.assertEqual("chain", self.assert_told(clauses(text), most=0))
        self.assertEqual([("given", ())], search([()])[1].steps())

    def test_clauses_of_one_literal(self):
        self.assertEqual(("row", {"a": True}), search(clauses("a")))
        self.assertEqual(("row", {"a": False, "b": True}), search(clauses("-a, b, b, -a"), most=0))
        self.assertEqual("chain", self.assert_told(clauses("a, -a"), most=0))
        self.assertEqual("chain", self.assert_told(clauses("a, -a b, -b"), most=0))
        self.assertEqual("chain", self.assert_told(clauses("b, a, -a -b, a b"), most=0))

    def test_alike_clauses_and_a_name_both_ways_in_two(self):
        self.assertEqual("row", self.assert_told(clauses("a b, a b, -a b, -a b")))
        self.assertEqual("row", self.assert_told(clauses("a -b, -a b")))
        self.assertEqual("chain", self.assert_told(clauses("a b, a b, -a b, -a b, -b, -b")))

    def test_it_tells_what_some_row_tells(self):
        chance = Random(13)
        told = []
        for number in range(500):
            names = list("abcdef")[:1 + number % 6]
            rows = some_clauses(chance, names, chance.randint(1, 6 * len(names)), 1 if number % 3 else min(2, len(names)))
            rows += rows[:chance.randint(0, 2)]
            order = tuple(chance.choice(names + ["zz"]) for _ in range(chance.randint(0, 7)))
            kind = self.assert_told(rows, order=order)
            self.assertEqual("row" if truths_of(rows, names_of_clauses(rows)) else "chain", kind)
            told.append(kind)
        self.assertGreater(min(told.count("row"), told.count("chain")), 100)

    def test_order(self):
        rows = signs_of("abc")
        for order in ((), ("a",), ("c", "b", "a"), ("zz", "a", "a", "b0", "zz"), ("b", "b", "c"), ("x",)):
            kept = tuple(order)
            self.assertEqual("chain", self.assert_told(rows, order=order))
            self.assertEqual("row", self.assert_told(rows[1:], order=order))
            self.assertEqual(kept, order)

    def test_names_that_are_fixed_are_not_asked(self):
        rows = clauses("a, -a b, -b c, -c d e, -d e, -e f")
        self.assertEqual("row", self.assert_told(rows[:3] + rows[5:], order=("c", "b", "a"), most=1))
        self.assertEqual("row", self.assert_told(clauses("a, -a b, -b c"), order=("c", "b", "a"), most=0))
        self.assertEqual("chain", self.assert_told(clauses("a, -a b, -b c, -c -b"), order=("c", "b"), most=0))
        # One answer fixes all others.
        rows = clauses("a b, -b a, -a c, -c -a")
        self.assertEqual("chain", self.assert_told(rows, order=("a", "b", "c"), most=1))
        self.assert_too_great(rows, 0)

    def test_at_most_two_to_their_count_less_one_where_those_of_the_order_fix_all(self):
        chance = Random(5)
        for count in range(1, 8):
            names = [f"a{number}" for number in range(count)]
            rows = signs_of(names)
            # z0 is what all are at once, z1 what a0 is; and z2 isn't z1.
            given = [clause(" ".join([f"-{name}" for name in names]) + " z0")] + [clause(f"-z0 {n}") for n in names]
            given += clauses("-z1 a0, z1 -a0, z1 z2, -z1 -z2")
            for told in (rows, rows[1:], rows[:-1], rows[:len(rows) // 2] + rows[len(rows) // 2 + 1:]):
                told = told + given
                chance.shuffle(told)
                order = names[:]
                chance.shuffle(order)
                self.assert_told(told, order=tuple(order), most=2 ** count - 1)
            if count > 1:
                self.assert_too_great(rows, 2 ** (count - 1) - 2, order=tuple(names))

    def test_too_great(self):
        for most in (0, 1, 2, 5):
            self.assert_too_great(pigeons(6, 5), most)
        self.assert_too_great(clauses("a b, a -b, -a b, -a -b"), 0)
        self.assertEqual("chain", self.assert_told(clauses("a b, a -b, -a b, -a -b"), most=1))

    def test_a_greater_most_tells_the_same(self):
        rows = pigeons(5, 4)
        told = None
        for most in (0, 3, 10, 20, 28, 29, 30, 50, 100, 5000):
            if told is None:
                try:
                    told = search(rows, most=most)
                except TooGreat as refused:
                    self.assertEqual(most, refused.most)
            else:
                self.assertEqual(told, search(rows, most=most))
        self.assertIsNotNone(told)

    def test_of_at_most_twelve_names_never_at_5000(self):
        names = [f"a{number}" for number in range(12)]
        chance = Random(12)
        for number in range(12):
            rows = some_clauses(chance, names, 200, 3, 3 + number % 2)
            self.assert_told(rows)
            self.assert_told(rows[:60], order=tuple(names[::-1]))
        # A row of things that are the same, odd in number, and unlike at the end: each answer is needed.
        rows = []
        for first, second, third in zip(names, names[1:] + names[:1], names[2:] + names[:2]):
            rows += [clause(f"{first} {second} {third}"), clause(f"-{first} -{second} -{third}")]
        self.assertEqual("row", self.assert_told(rows))
        self.assertEqual("chain", self.assert_told(rows + clauses("a0 a1, -a0 -a1, a0 a2, -a0 -a2, a1 a2, -a1 -a2")))

    def test_only_names_that_nothing_fixes_at_first_count(self):
        names = [f"a{number}" for number in range(12)]
        rows = some_clauses(Random(3), names, 70, 3, 3)
        fixed = [clause("b0")] + [clause(f"-b{number} b{number + 1}") for number in range(60)]
        self.assert_told(rows + fixed)

    def test_things_put_into_one_place_fewer_than_they_are(self):
        for things in range(2, 8):
            self.assertEqual("chain", self.assert_told(pigeons(things, things - 1)))
            self.assertEqual("row", self.assert_told(pigeons(things - 1, things - 1)))

    def test_names_that_give_one_another_in_rows(self):
        for count in (2, 40, 70):
            names = [f"a{number}" for number in range(count)]
            rows = [clause(f"-{name} {behind}") for name, behind in zip(names, names[1:])]
            self.assertEqual("row", self.assert_told(rows))
            around = rows + [clause(f"-{names[-1]} {names[0]}")]
            self.assertEqual("row", self.assert_told(around))
            self.assertEqual("row", self.assert_told(around + [clause(f"{names[0]} {names[1]}")]))
            apart = around + [clause(f"{names[0]} {names[-1]}"), clause(f"-{names[0]} -{names[1]}")]
            self.assertEqual("chain", self.assert_told(apart))
            self.assertEqual("chain", self.assert_told(rows + [clause("a0"), clause(f"-{names[-1]}")], most=0))

    def test_two_hundred_clauses_of_seventy_names(self):
        told = []
        for seed in range(8):
            for count in (40, 45, 50, 70):
                names = [f"a{number}" for number in range(count)]
                told.append(self.assert_told(some_clauses(Random(seed), names, 200, 3, 3)))
        self.assertGreater(min(told.count("row"), told.count("chain")), 5)

    def test_two_hundred_clauses_of_sixty_names_each(self):
        names = [f"a{number}" for number in range(1000)]
        self.assertEqual("row", self.assert_told(some_clauses(Random(60), names, 200, 60, 60)))

    def test_what_is_changed_afterwards_changes_nothing(self):
        rows = pigeons(3, 2)
        _, told = search(rows)
        text = str(told)
        rows.clear()
        self.assertEqual(text, str(told))
        told = search(clauses("a b"))
        told[1].clear()
        self.assertEqual(["a", "b"], sorted(search(clauses("a b"))[1]))

    def test_by_name_alone(self):
        self.assertRaises(TypeError, search, [], ())
        self.assertRaises(TypeError, search, [], (), 5)


if __name__ == "__main__":
    unittest.main()
