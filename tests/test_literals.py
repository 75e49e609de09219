"""Names, literals and clauses: promise 7."""

import unittest

from middlesay.errors import NoName
from middlesay.literals import is_clause, is_name, is_part, is_true
from tests.helping import ODD_THINGS, rows_of, within

AB = (("a", True), ("b", False))


class IsName(unittest.TestCase):

    def test_words_and_fresh_names(self):
        for name in ("a", "z", "abcdefgh", "a0", "a007", "abcdefgh1234", "a12345678901", "nota", "nota1", "m399", "i"):
            self.assertIs(is_name(name), True, name)

    def test_what_is_none(self):
        for thing in ("", "1", "007", "abcdefghi", "abcdefghi1", "abcdefgh12345", "a123456789012", "A", "A1", "aB",
                      "a1b", "1a", "a 1", " a", "a ", "a\n", "-a", "a-1", "a_1", "a.1", "a+1", "(a)", "."):
            self.assertIs(is_name(thing), False, thing)

    def test_a_letter_behind_figures(self):
        for letter in "abcdefghijklmnopqrstuvwxyz":
            self.assertIs(is_name(f"a1{letter}"), False, letter)
            self.assertIs(is_name(f"{letter}1"), True, letter)

    def test_barred_words(self):
        for word in ("not", "and", "or", "gives", "is", "yes", "no"):
            for figures in ("", "0", "12", "0000"):
                self.assertIs(is_name(word + figures), False, word + figures)

    def test_odd_things(self):
        for thing in ODD_THINGS + (within(150), ("a",) * 19999, "a" * 20000, "1" * 20000):
            words = isinstance(thing, str) and thing in ("a", "name", "given")
            self.assertIs(is_name(thing), words, thing)


class IsClause(unittest.TestCase):

    def test_clauses(self):
        for clause in ((), (("a", True),), (("a", False),), AB, (("a", True), ("a0", True), ("b", False), ("m12", True)),
                       (("a", True), ("aa", False), ("b", True)), (("a10", True), ("a2", True)),
                       tuple([(f"a{100 + number}", number % 2 == 0) for number in range(60)])):
            self.assertIs(is_clause(clause), True, clause)

    def test_not_sorted(self):
        for thing in ((("b", True), ("a", True)), (("a2", True), ("a10", True)), (("a0", True), ("a", True)),
                      (("a", True), ("c", True), ("b", True))):
            self.assertIs(is_clause(thing), False, thing)

    def test_twice_or_both_ways(self):
        for thing in ((("a", True), ("a", True)), (("a", False), ("a", False)), (("a", False), ("a", True)),
                      (("a", True), ("a", False)), (("a", False), ("b", True), ("b", True)),
                      (("a", True), ("b", False), ("b", True), ("c", True))):
            self.assertIs(is_clause(thing), False, thing)

    def test_truths_and_numbers(self):
        for thing in ((("a", 1),), (("a", 0),), ((True, True),), ((1, True),), (("a", None),), (("a", "b"),),
                      ((None, True),), (("a", True), ("b", 1)), (("a", ()),), (("a", (True,)),)):
            self.assertIs(is_clause(thing), False, thing)

    def test_a_list_in_a_tuples_place(self):
        for thing in ([], [("a", True)], (["a", True],), (("a", True), ["b", True]), ((["a"], True),), [["a", True]]):
            self.assertIs(is_clause(thing), False, thing)

    def test_literals_of_one_or_three_parts(self):
        for thing in (("a", True), (("a",),), (("a", True, True),), ((),), (("a", True), ()), ("a",), (True,)):
            self.assertIs(is_clause(thing), False, thing)

    def test_names_that_are_none(self):
        for name in ("", "A", "not", "is3", "abcdefghi", "1", "a b", "abcdefgh12345"):
            self.assertIs(is_clause(((name, True),)), False, name)
            self.assertIs(is_clause((("a", True), (name, False))), False, name)

    def test_odd_things(self):
        for thing in ODD_THINGS + (within(150), (("a", within(148)),), ((within(148), True),), (1,) * 19999):
            self.assertIs(is_clause(thing), thing == () and isinstance(thing, tuple), thing)


class IsTrue(unittest.TestCase):

    def test_the_empty_one_is_never_true(self):
        self.assertIs(is_true((), {}), False)
        self.assertIs(is_true((), {"a": True}), False)

    def test_where_some_literal_is(self):
        for row in rows_of("ab"):
            self.assertIs(is_true(AB, row), row["a"] or not row["b"], row)
            self.assertIs(is_true((("a", True),), row), row["a"], row)
            self.assertIs(is_true((("b", False),), row), not row["b"], row)

    def test_more_names_in_the_row(self):
        self.assertIs(is_true(AB, {"a": False, "b": False, "c": True, "m0": False}), True)
        self.assertIs(is_true(AB, {"a": False, "b": True, "c": True, "m0": True}), False)

    def test_a_row_that_lacks_names_is_refused_with_the_least(self):
        long = (("a", True), ("b", True), ("c0", False), ("d", False))
        for clause, row, least in (
            (AB, {}, "a"), (AB, {"a": True}, "b"), (AB, {"b": False}, "a"), (AB, {"c": True}, "a"),
            (long, {"b": True}, "a"), (long, {"a": True, "d": False}, "b"), (long, {"a": True, "b": True}, "c0"),
            (long, {"a": True, "b": True, "c0": False}, "d"),
        ):
            with self.subTest(clause=clause, row=row):
                with self.assertRaises(NoName) as caught:
                    is_true(clause, row)
                self.assertEqual(least, caught.exception.name)
                self.assertIsInstance(caught.exception, KeyError)

    def test_the_row_stays(self):
        row = {"b": True, "a": False}
        is_true(AB, row)
        self.assertRaises(NoName, is_true, (("x", True),), row)
        self.assertEqual([("b", True), ("a", False)], list(row.items()))


class IsPart(unittest.TestCase):

    def test_parts(self):
        for clause, other, told in (
            ((), (), True), ((), AB, True), (AB, (), False), (AB, AB, True), ((("a", True),), AB, True),
            ((("b", False),), AB, True), (AB, (("a", True),), False), ((("a", False),), AB, False),
            ((("b", True),), AB, False), ((("a", True), ("c", True)), AB, False), ((("c", True),), AB, False),
            ((("a", True), ("c", True)), (("a", True), ("b", True), ("c", True)), True),
        ):
            self.assertIs(is_part(clause, other), told, (clause, other))


if __name__ == "__main__":
    unittest.main()
