"""Clauses of sayings, with fresh names and spread: promises 8 and 9."""

import unittest

from middlesay.clausing import clauses_of, spread
from middlesay.errors import TooGreat
from middlesay.literals import is_clause
from tests.helping import A, B, C, NO, YES, evenly, nots, plain_names, plain_truth, rows_of, small_sayings
from tests.helping import some_sayings


def parts_in(saying):
    """How many parts a saying has."""
    return 1 if saying[0] == "name" else 1 + sum(parts_in(part) for part in saying[1:])


def is_plainly_true(clause, row):
    return any(row[name] is yes for name, yes in clause)


def ways_on(clauses, row, left):
    """All ways in which a row goes on to the left names so that all the clauses are true."""
    for clause in clauses:
        if all(name in row for name, _ in clause) and not is_plainly_true(clause, row):
            return []
    if not left:
        return [row]
    return [way for yes in (True, False) for way in ways_on(clauses, {**row, left[0]: yes}, left[1:])]


def pairs_of_ands(count):
    """So many ands of two names each, joined by or: its clauses are no fewer than 2 to the count."""
    saying = None
    for number in range(count):
        letter = chr(ord("a") + number)
        both = ("and", ("name", letter + "a"), ("name", letter + "b"))
        saying = both if saying is None else ("or", saying, both)
    return saying


def all_of(names):
    """The names joined by and, hung as flat as may be."""
    if len(names) == 1:
        return ("name", names[0])
    half = len(names) // 2
    return ("and", all_of(names[:half]), all_of(names[half:]))


class ClausesOf(unittest.TestCase):

    def assert_clauses(self, saying, mark):
        clauses = clauses_of(saying, mark)
        self.assertIs(list, type(clauses))
        self.assertEqual([], [clause for clause in clauses if is_clause(clause) is not True])
        self.assertLessEqual(max(len(clause) for clause in clauses), 3)
        self.assertLessEqual(len(clauses), 4 * parts_in(saying) + 1)
        self.assertEqual(1, len(clauses[-1]))
        own = sorted(plain_names(saying))
        fresh = {name for clause in clauses for name, _ in clause} - set(own)
        self.assertEqual({f"{mark}{number}" for number in range(len(fresh))}, fresh)
        self.assertEqual(clauses, clauses_of(saying, mark))
        return clauses, own, [f"{mark}{number}" for number in range(len(fresh))]

    def assert_one_way_on(self, saying, mark):
        clauses, own, fresh = self.assert_clauses(saying, mark)
        for row in rows_of(own):
            ways = ways_on(clauses[:-1], row, fresh)
            self.assertEqual(1, len(ways), (saying, mark, row))
            self.assertIs(is_plainly_true(clauses[-1], ways[0]), plain_truth(saying, row), (saying, mark, row))

    def test_small_ones(self):
        for saying in small_sayings():
            for mark in ("m", "a", "b"):
                self.assert_one_way_on(saying, mark)

    def test_such_as_have_a_part_twice(self):
        for kind in ("and", "or", "if", "same"):
            for saying in ((kind, A, A), (kind, A, ("not", A)), (kind, ("not", A), A), (kind, YES, NO), (kind, NO, NO),
                           (kind, (kind, A, A), ("not", (kind, A, A)))):
                self.assert_one_way_on(saying, "x")

    def test_several_within_one_another(self):
        for saying in some_sayings(7, 250, ["a", "b", "c", "m"], 5):
            self.assert_one_way_on(saying, "m")

    def test_a_mark_of_eight_letters_and_great_sayings(self):
        for saying in (evenly("and", 200), ("not", evenly("same", 200)), nots(24), nots(25, YES),
                       ("not", ("not", evenly("or", 200))), pairs_of_ands(24)):
            self.assert_clauses(saying, "abcdefgh")

    def test_a_list_that_is_changed_changes_nothing_later(self):
        saying = ("and", A, B)
        first = clauses_of(saying, "m")
        kept = list(first)
        first.clear()
        self.assertEqual(kept, clauses_of(saying, "m"))


class Spread(unittest.TestCase):

    def assert_spread(self, saying, **most):
        clauses = spread(saying, **most)
        self.assertIs(list, type(clauses))
        self.assertEqual([], [clause for clause in clauses if is_clause(clause) is not True])
        own = plain_names(saying)
        self.assertLessEqual({name for clause in clauses for name, _ in clause}, own)
        for row in rows_of(sorted(own)):
            told = all(is_plainly_true(clause, row) for clause in clauses)
            self.assertIs(told, plain_truth(saying, row), (saying, row))
        self.assertEqual(clauses, spread(saying, **most))
        return clauses

    def assert_too_great(self, saying, most):
        with self.assertRaises(TooGreat) as caught:
            spread(saying, most=most)
        self.assertEqual(most, caught.exception.most)
        self.assertIsInstance(caught.exception, OverflowError)

    def test_small_ones(self):
        for saying in small_sayings():
            self.assert_spread(saying)

    def test_of_no_names(self):
        self.assertEqual([], spread(YES))
        self.assertEqual([()], spread(NO))
        self.assertEqual([], spread(("or", A, ("not", A))))

    def test_several_within_one_another(self):
        for saying in some_sayings(8, 400, ["a", "b", "c", "d"], 7):
            self.assert_spread(saying)

    def test_of_four_names_never_refused_at_500(self):
        for saying in some_sayings(9, 60, ["a", "b", "c", "d"], 9):
            self.assertLessEqual(len(self.assert_spread(saying, most=500)), 500)
        saying = A
        for number in range(24):
            saying = ("same", ("name", "bcda"[number % 4]), saying)
        self.assert_spread(saying)
        self.assert_spread(("not", saying))
        self.assert_spread(evenly("same", 100))

    def test_too_great_at_500_where_it_is_left_out(self):
        with self.assertRaises(TooGreat) as caught:
            spread(pairs_of_ands(9))
        self.assertEqual(500, caught.exception.most)
        self.assertEqual(256, len(spread(pairs_of_ands(8))))

    def test_a_conjunction_of_many_is_not_refused(self):
        names = [f"{first}{second}" for first in "abcdefghij" for second in "abcdefghij"]
        saying = all_of(names)
        self.assertEqual([((name, True),) for name in names], spread(saying))
        self.assertEqual([tuple((name, False) for name in names)], spread(("not", saying)))

    def test_too_great_at_what_is_handed_in(self):
        for most in (3, 100, 511):
            self.assert_too_great(pairs_of_ands(9), most)
        for most in (500, 1000, 5000):
            self.assert_too_great(pairs_of_ands(24), most)
        self.assertEqual(512, len(spread(pairs_of_ands(9), most=512)))
        self.assertEqual(4096, len(spread(pairs_of_ands(12), most=5000)))

    def test_with_a_greater_most_nothing_is_refused_that_wasnt_ahead(self):
        for saying in some_sayings(10, 150, list("abcdefg"), 6) + small_sayings()[::9]:
            told = None
            for most in list(range(40)) + [100, 300, 500, 800, 2000]:
                if told is None:
                    try:
                        told = spread(saying, most=most)
                        self.assertLessEqual(len(told), most)
                    except TooGreat as refused:
                        self.assertEqual(most, refused.most)
                else:
                    self.assertEqual(told, spread(saying, most=most))
            self.assertIsNotNone(told)

    def test_most_is_by_name_alone(self):
        self.assertRaises(TypeError, spread, A, 500)

    def test_a_list_that_is_changed_changes_nothing_later(self):
        saying = ("and", ("or", A, B), C)
        spread(saying).clear()
        self.assertEqual([(("a", True), ("b", True)), (("c", True),)], spread(saying))


if __name__ == "__main__":
    unittest.main()
