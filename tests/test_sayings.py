"""What a saying is, its names, and where it holds: promises 4 and 5."""

import unittest

from middlesay.errors import NoName
from middlesay.sayings import holds, is_saying, names_of
from tests.helping import A, B, C, NO, ODD_THINGS, PAIRS, YES, evenly, nots, plain_names, plain_truth, rows_of
from tests.helping import small_sayings, some_sayings, within


class IsSaying(unittest.TestCase):

    def test_each_kind_is_one(self):
        for saying in [YES, NO, A, ("not", A)] + [(kind, A, NO) for kind in PAIRS]:
            self.assertIs(is_saying(saying), True, saying)

    def test_small_ones_within_one_another(self):
        for saying in small_sayings():
            self.assertIs(is_saying(saying), True, saying)

    def test_words(self):
        for word in ("a", "z", "abcdefgh", "zzzzzzzz", "nota", "ands", "yess", "i", "give", "if", "same", "name"):
            self.assertIs(is_saying(("name", word)), True, word)

    def test_what_is_no_word(self):
        barred = ["not", "and", "or", "gives", "is", "yes", "no"]
        signs = ["", "abcdefghi", "a1", "1", "A", "aB", "Yes", "a b", " a", "a ", "a\n", "\n", "-a", "a-", "(", "a_b"]
        for word in barred + signs + [1, True, None, ("a",), ["a"], (), A]:
            self.assertIs(is_saying(("name", word)), False, word)

    def test_a_list_in_a_tuples_place(self):
        for thing in (["yes"], ["name", "a"], ["not", A], ("not", ["yes"]), ("and", A, ["name", "b"]), ["or", A, B]):
            self.assertIs(is_saying(thing), False, thing)

    def test_parts_more_or_fewer(self):
        for thing in (("yes", "yes"), ("no", A), ("yes", ()), ("name",), ("name", "a", "b"), ("not",), ("not", A, B)):
            self.assertIs(is_saying(thing), False, thing)
        for kind in PAIRS:
            for thing in ((kind,), (kind, A), (kind, A, B, C)):
                self.assertIs(is_saying(thing), False, thing)

    def test_what_stands_in_a_parts_place(self):
        for thing in (1, 0, True, False, None, "a", "yes", "", (), []):
            self.assertIs(is_saying(("not", thing)), False, thing)
            for kind in PAIRS:
                self.assertIs(is_saying((kind, thing, A)), False, thing)
                self.assertIs(is_saying((kind, A, thing)), False, thing)

    def test_what_stands_in_a_kinds_place(self):
        for kind in ("", "gives", "is", "xor", "Not", "AND", "yes ", None, True, 1, (), [], ("and",), ["and"], A):
            self.assertIs(is_saying((kind,)), False, kind)
            self.assertIs(is_saying((kind, A)), False, kind)
            self.assertIs(is_saying((kind, A, B)), False, kind)

    def test_odd_things(self):
        for thing in ODD_THINGS:
            self.assertIs(is_saying(thing), thing == A, thing)

    def test_just_400_parts_and_401(self):
        four_hundred = ("not", evenly("and", 200))
        self.assertIs(is_saying(four_hundred), True)
        self.assertIs(is_saying(("not", four_hundred)), False)
        self.assertIs(is_saying(evenly("or", 200)), True)
        self.assertIs(is_saying(evenly("or", 201)), False)

    def test_just_25_within_one_another_and_26(self):
        for leaf in (YES, NO, A):
            self.assertIs(is_saying(nots(24, leaf)), True)
            self.assertIs(is_saying(nots(25, leaf)), False)
        for kind in PAIRS:
            self.assertIs(is_saying((kind, A, nots(23))), True)
            self.assertIs(is_saying((kind, nots(23), A)), True)
            self.assertIs(is_saying((kind, A, nots(24))), False)
            self.assertIs(is_saying((kind, nots(24), A)), False)

    def test_one_tuple_object_that_stands_twice_counts_twice(self):
        saying = A
        for _ in range(7):
            saying = ("and", saying, saying)
        self.assertIs(is_saying(saying), True)
        self.assertIs(is_saying(("or", saying, nots(20))), True)
        self.assertIs(is_saying(("or", saying, saying)), False)
        for _ in range(17):
            saying = ("and", saying, saying)
        self.assertIs(is_saying(saying), False)

    def test_a_hundred_and_fifty_within_one_another(self):
        self.assertIs(is_saying(within(150)), False)
        self.assertIs(is_saying(nots(149)), False)
        self.assertIs(is_saying(("not", within(149))), False)
        self.assertIs(is_saying(("name", within(149))), False)

    def test_20000_parts(self):
        self.assertIs(is_saying(("and",) + (A,) * 9999), False)
        self.assertIs(is_saying([YES] * 9999), False)
        self.assertIs(is_saying(("and", A, (1,) * 19990)), False)
        self.assertIs(is_saying(evenly("and", 6600)), False)


class NamesOf(unittest.TestCase):

    def test_sorted_each_once(self):
        self.assertEqual([], names_of(YES))
        self.assertEqual(["a"], names_of(A))
        self.assertEqual(["a", "b", "c"], names_of(("if", ("and", C, A), ("not", ("or", B, C)))))
        self.assertEqual(["a", "aa", "b"], names_of(("and", B, ("same", ("name", "aa"), A))))

    def test_of_many(self):
        for saying in some_sayings(1, 300, ["b", "a", "abc", "zz", "m"], 6):
            self.assertEqual(sorted(plain_names(saying)), names_of(saying))

    def test_new_each_time(self):
        saying = ("and", A, B)
        names_of(saying).append("c")
        names_of(saying).clear()
        self.assertEqual(["a", "b"], names_of(saying))
        self.assertIs(list, type(names_of(saying)))


class Holds(unittest.TestCase):

    def test_the_usual_tables(self):
        tables = {"and": "1000", "or": "1110", "if": "1011", "same": "1001"}
        for kind, table in tables.items():
            told = [holds((kind, A, B), {"a": x, "b": y}) for x in (True, False) for y in (True, False)]
            self.assertEqual([sign == "1" for sign in table], told, kind)
        self.assertEqual([False, True], [holds(("not", A), {"a": x}) for x in (True, False)])
        self.assertEqual([True, False], [holds(A, {"a": x}) for x in (True, False)])
        self.assertIs(holds(YES, {}), True)
        self.assertIs(holds(NO, {}), False)

    def test_of_many_in_each_row(self):
        for saying in small_sayings() + some_sayings(2, 300, ["a", "b", "c"], 6):
            for row in rows_of(["a", "b", "c"]):
                self.assertIs(holds(saying, row), plain_truth(saying, row), (saying, row))

    def test_more_names_in_the_row(self):
        self.assertIs(holds(("or", A, B), {"a": False, "b": True, "c": False, "a0": True}), True)
        self.assertIs(holds(NO, {"a": True}), False)

    def test_a_row_that_lacks_names_is_refused_with_the_least(self):
        both = ("and", ("or", C, B), ("not", A))
        for saying, row, least in (
            (A, {}, "a"), (both, {}, "a"), (both, {"a": True}, "b"), (both, {"a": True, "b": True}, "c"),
            (both, {"c": False}, "a"), (("or", YES, A), {}, "a"), (("and", NO, B), {"a": True}, "b"),
            (("if", NO, ("and", C, B)), {}, "b"), (("or", A, B), {"a": True}, "b"), (("and", B, A), {"b": False}, "a"),
            (("and", ("name", "b"), ("name", "ab")), {}, "ab"),
        ):
            with self.subTest(saying=saying, row=row):
                with self.assertRaises(NoName) as caught:
                    holds(saying, row)
                self.assertEqual(least, caught.exception.name)

    def test_what_is_handed_in_stays(self):
        row = {"b": True, "a": False, "c": True}
        holds(("and", A, B), row)
        self.assertEqual([("b", True), ("a", False), ("c", True)], list(row.items()))
        with self.assertRaises(NoName):
            holds(("and", A, ("name", "x")), row)
        self.assertEqual([("b", True), ("a", False), ("c", True)], list(row.items()))

    def test_a_saying_behind_a_not_though_too_great(self):
        self.assertIs(holds(nots(25), {"a": True}), False)
        self.assertEqual(["a"], names_of(("not", ("not", evenly("and", 200)))))


if __name__ == "__main__":
    unittest.main()
