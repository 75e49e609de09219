"""Tables of sayings, and which are the same: promise 5."""

import unittest
from itertools import permutations

from middlesay.errors import NoName
from middlesay.tables import same, table
from tests.helping import A, B, C, NO, YES, evenly, nots, plain_truth, rows_of, small_sayings, some_sayings


class Table(unittest.TestCase):

    def test_bit_r_is_the_row_of_the_bits_of_r(self):
        self.assertEqual(0b10, table(A, ["a"]))
        self.assertEqual(0b01, table(("not", A), ["a"]))
        self.assertEqual(0b1010, table(A, ["a", "b"]))
        self.assertEqual(0b1100, table(A, ["b", "a"]))
        self.assertEqual(0b1101, table(("if", A, B), ["a", "b"]))
        self.assertEqual(0b1011, table(("if", A, B), ["b", "a"]))
        self.assertEqual(0b11110000, table(A, ["b", "c", "a"]))
        self.assertEqual(0b1001, table(("same", A, B), ["a", "b"]))

    def test_names_in_each_order(self):
        for saying in small_sayings() + some_sayings(3, 100, ["a", "b", "c"], 6):
            for names in permutations(["a", "b", "c"]):
                told = table(saying, list(names))
                self.assertIs(int, type(told))
                bits = [plain_truth(saying, row) for row in rows_of(names)]
                self.assertEqual(sum(1 << place for place, bit in enumerate(bits) if bit), told, (saying, names))

    def test_more_names_than_its_own(self):
        self.assertEqual(0xFF, table(YES, ["c", "a", "b"]))
        self.assertEqual(0x00, table(NO, ["c", "a", "b"]))
        self.assertEqual(0xAAAA, table(A, ["a", "b", "c1", "m20"]))

    def test_no_names_at_all(self):
        self.assertEqual(1, table(YES, []))
        self.assertEqual(0, table(NO, []))
        self.assertEqual(1, table(("if", NO, YES), []))

    def test_twelve_names(self):
        names = list("lkjihgfedcba")
        saying = ("not", ("and", ("or", ("name", "l"), ("name", "a")), ("same", ("name", "f"), ("name", "c"))))
        told = table(saying, names)
        for bits, row in enumerate(rows_of(names)):
            self.assertEqual(plain_truth(saying, row), bool(told >> bits & 1))
        self.assertEqual(0, told >> 4096)

    def test_a_list_that_lacks_names_is_refused_with_the_least(self):
        saying = ("and", ("or", C, B), ("or", YES, A))
        for names, least in (([], "a"), (["a"], "b"), (["b", "c"], "a"), (["b", "a"], "c"), (["d"], "a")):
            with self.assertRaises(NoName) as caught:
                table(saying, names)
            self.assertEqual(least, caught.exception.name)

    def test_what_is_handed_in_stays(self):
        names = ["b", "a", "c"]
        table(("and", A, B), names)
        self.assertEqual(["b", "a", "c"], names)
        self.assertRaises(NoName, table, ("name", "x"), names)
        self.assertEqual(["b", "a", "c"], names)

    def test_great_sayings(self):
        self.assertEqual(0b10, table(("not", ("not", evenly("and", 200))), ["a"]))
        self.assertEqual(0b01, table(nots(25), ["a"]))


class Same(unittest.TestCase):

    def test_same_ones(self):
        for saying, other in (
            (A, A), (("and", A, B), ("and", B, A)), (("if", A, B), ("or", ("not", A), B)), (A, ("not", ("not", A))),
            (YES, ("or", A, ("not", A))), (NO, ("same", A, ("not", A))), (A, ("and", A, ("or", B, ("not", B)))),
            (("or", B, ("not", B)), ("if", C, C)), (("same", A, ("same", B, C)), ("same", ("same", A, B), C)),
        ):
            self.assertIs(same(saying, other), True, (saying, other))
            self.assertIs(same(other, saying), True, (saying, other))

    def test_such_as_differ(self):
        for saying, other in (
            (A, B), (YES, NO), (A, ("not", A)), (A, YES), (("and", A, B), ("or", A, B)), (A, ("and", A, B)),
            (("if", A, B), ("if", B, A)),
        ):
            self.assertIs(same(saying, other), False, (saying, other))
            self.assertIs(same(other, saying), False, (saying, other))

    def test_such_as_differ_in_one_row_alone(self):
        names = list("abcdefghijkl")
        every = ("name", "a")
        for name in names[1:]:
            every = ("and", every, ("name", name))
        self.assertIs(same(every, NO), False)
        self.assertIs(same(("not", every), YES), False)
        self.assertIs(same(every, ("and", ("name", "l"), every)), True)

    def test_by_the_rows_of_all_names_of_both(self):
        sayings = some_sayings(4, 60, ["a", "b", "c"], 3)
        for saying in sayings:
            for other in sayings:
                alike = all(plain_truth(saying, row) == plain_truth(other, row) for row in rows_of("abc"))
                self.assertIs(same(saying, other), alike, (saying, other))


if __name__ == "__main__":
    unittest.main()
