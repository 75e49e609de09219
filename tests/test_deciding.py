"""Sayings of two sides decided, and whether sayings give one: promises 14 and 15."""

import unittest

from middlesay.chains import Chain, comes_to
from middlesay.clausing import clauses_of
from middlesay.deciding import decided, given_by
from middlesay.errors import TooMany
from middlesay.sayings import is_saying
from tests.helping import A, B, C, NO, PAIRS, YES, evenly, nots, plain_names, plain_truth, rows_of, some_sayings

LETTERS = "abcdefghijklmnopqrstuvwxyz"
NINE = list("abcdefghi")


def with_names(saying, names):
    """The saying with these names in turn in the place of its names."""
    left = list(names)

    def told(part):
        if part[0] == "name":
            left.append(left.pop(0))
            return ("name", left[-1])
        return (part[0], *[told(inner) for inner in part[1:]])

    return told(saying)


def deep(count):
    """A saying in which so many stand within one another."""
    saying = A
    for number in range(count - 2):
        saying = (PAIRS[number % 4], ("name", NINE[number % 9]), saying)
    return ("not", saying)


class Told(unittest.TestCase):

    def all_names(self, sayings):
        return sorted(set().union(*[plain_names(saying) for saying in sayings]))

    def clauses_by(self, sayings, side):
        return [row for saying, letter in zip(sayings, LETTERS) for row in clauses_of(saying, side + letter)]

    def assert_too_many(self, most, told):
        with self.assertRaises(TooMany) as caught:
            told()
        self.assertEqual(most, caught.exception.most)
        self.assertIsInstance(caught.exception, OverflowError)


class Decided(Told):

    def assert_decided(self, ones, others):
        kept = list(ones), list(others)
        told = decided(ones, others)
        self.assertIs(tuple, type(told))
        self.assertEqual(told, decided(ones, others))
        self.assertEqual(kept, (ones, others))
        if told[0] == "row":
            self.assertEqual(2, len(told))
            self.assertEqual(self.all_names(ones + others), sorted(told[1]))
            self.assertTrue(all(plain_truth(saying, told[1]) for saying in ones + others))
            self.assertEqual(set(), {type(yes) for yes in told[1].values()} - {bool})
            return "row"
        kind, one, other, chain = told
        self.assertEqual("clash", kind)
        self.assertEqual(self.clauses_by(ones, "one"), one)
        self.assertEqual(self.clauses_by(others, "other"), other)
        self.assertIs(Chain, type(chain))
        self.assertTrue(comes_to(chain, one + other, ()))
        fresh = [{name for row in rows for name, _ in row if name[-1].isdigit()} for rows in (one, other)]
        self.assertEqual(set(), fresh[0] & fresh[1])
        return "clash"

    def test_rows_and_clashes(self):
        told = []
        for number in range(300):
            sayings = some_sayings(number, 2 + number % 5, NINE[:2 + number % 4], 2 + number % 4)
            parted = number % (len(sayings) + 1)
            kind = self.assert_decided(sayings[:parted], sayings[parted:])
            rows = rows_of(self.all_names(sayings))
            self.assertEqual(kind == "row", any(all(plain_truth(held, row) for held in sayings) for row in rows))
            told.append(kind)
        self.assertGreater(min(told.count("row"), told.count("clash")), 50)

    def test_bare_sides(self):
        self.assertEqual(("row", {}), decided([], []))
        self.assertEqual(("row", {"a": True}), decided([A], []))
        self.assertEqual(("row", {"a": False}), decided([], [("not", A)]))
        self.assertEqual("clash", self.assert_decided([], [A, ("not", A)]))
        self.assertEqual("clash", self.assert_decided([NO], []))
        self.assertEqual("row", self.assert_decided([YES], [YES]))
        self.assertEqual([], decided([], [NO])[1])
        self.assertEqual([], decided([NO], [])[2])

    def test_a_clash_by_one_side_alone(self):
        for ones, others in (([A, ("not", A)], [B]), ([B], [A, ("not", A), B]), ([NO], [A]), ([A], [B, NO]),
                             ([("and", A, ("not", A))], [("or", B, C)])):
            self.assertEqual("clash", self.assert_decided(ones, others))

    def test_sayings_of_no_need(self):
        ones = [("or", A, B), C, ("if", C, A)]
        self.assertEqual("clash", self.assert_decided(ones, [("not", A), YES, ("or", B, C)]))

    def test_alike_sayings(self):
        self.assertEqual("row", self.assert_decided([A] * 26, [A] * 26))
        self.assertEqual("clash", self.assert_decided([("or", A, B)] * 26, [("not", ("or", A, B))] * 26))

    def test_marks_of_their_own(self):
        sayings = [("or", A, B), ("and", A, C), ("same", B, C)]
        _, one, other, _ = decided(sayings, [("not", held) for held in sayings])
        for rows, side in ((one, "one"), (other, "other")):
            fresh = {name for row in rows for name, _ in row} - {"a", "b", "c"}
            self.assertEqual({f"{side}{letter}0" for letter in "abc"}, fresh)
        _, one, other, _ = decided([("and", ("or", A, B), ("and", A, B))], [A, ("and", B, NO)])
        self.assertEqual({"a", "b", "onea0", "onea1", "onea2"}, {name for row in one for name, _ in row})
        self.assertEqual({"a", "b", "otherb0", "otherb1"}, {name for row in other for name, _ in row})

    def test_too_many_names(self):
        ten = [("name", name) for name in NINE + ["jj"]]
        self.assert_too_many(9, lambda: decided(ten, []))
        self.assert_too_many(9, lambda: decided(ten[:5], ten[5:]))
        self.assert_too_many(9, lambda: decided([NO], [with_names(evenly("or", 10), NINE + ["z"])]))
        self.assertEqual("row", self.assert_decided(ten[:5], ten[5:9]))
        self.assertEqual("clash", self.assert_decided([with_names(evenly("or", 9), NINE)],
                                                      [("not", ("name", name)) for name in NINE]))

    def test_too_many_sayings(self):
        self.assert_too_many(26, lambda: decided([A] * 27, []))
        self.assert_too_many(26, lambda: decided([NO], [A] * 27))
        self.assert_too_many(26, lambda: decided([A] * 27, [A] * 27))
        self.assertEqual("row", self.assert_decided([A] * 26, [A] * 26))

    def test_too_many_names_ahead_of_too_many_sayings(self):
        self.assert_too_many(9, lambda: decided([A] * 27, [("name", name) for name in NINE + ["zz"]]))

    def test_great_sayings(self):
        for kind in PAIRS:
            held = with_names(evenly(kind, 200), NINE[:6])
            self.assertTrue(is_saying(held))
            again = with_names(evenly(kind, 199), NINE[:6])
            for told in ([held], [("not", again)], [again]):
                self.assert_decided([held], told)
            self.assertEqual("clash", self.assert_decided([again], [("not", again)]))
        self.assertEqual("clash", self.assert_decided([with_names(evenly("and", 200), NINE)], [("not", ("name", "i"))]))
        self.assertEqual("clash", self.assert_decided([with_names(evenly("same", 60), NINE)],
                                                      [("not", with_names(evenly("same", 60), NINE))]))

    def test_twenty_five_within_one_another(self):
        held = deep(25)
        self.assertTrue(is_saying(held))
        self.assertFalse(is_saying(deep(26)))
        self.assertEqual("row", self.assert_decided([held], [YES]))
        self.assertEqual("clash", self.assert_decided([held], [held[1]]))
        self.assertEqual("clash", self.assert_decided([nots(23)], [nots(22)]))

    def test_new_each_time(self):
        told = decided([A], [NO])
        text = str(told[3])
        told[1].clear()
        told[2].clear()
        again = decided([A], [NO])
        self.assertEqual(text, str(again[3]))
        self.assertTrue(again[1] and again[2])


class GivenBy(Told):

    def assert_given(self, sayings, saying):
        kept = list(sayings)
        told = given_by(sayings, saying)
        self.assertEqual(told, given_by(sayings, saying))
        self.assertEqual(kept, sayings)
        if told[0] == "row":
            self.assertEqual(2, len(told))
            self.assertEqual(self.all_names(sayings + [saying]), sorted(told[1]))
            self.assertTrue(all(plain_truth(held, told[1]) for held in sayings))
            self.assertFalse(plain_truth(saying, told[1]))
            return False
        kind, rows, chain = told
        self.assertEqual("chain", kind)
        self.assertEqual(self.clauses_by(sayings, "one") + clauses_of(("not", saying), "othera"), rows)
        self.assertIs(Chain, type(chain))
        self.assertTrue(comes_to(chain, rows, ()))
        return True

    def test_given_or_not(self):
        told = []
        for number in range(300):
            *sayings, saying = some_sayings(1000 + number, 1 + number % 5, NINE[:2 + number % 4], 2 + number % 4)
            given = self.assert_given(sayings, saying)
            rows = rows_of(self.all_names(sayings + [saying]))
            held = [row for row in rows if all(plain_truth(other, row) for other in sayings)]
            self.assertEqual(given, all(plain_truth(saying, row) for row in held))
            told.append(given)
        self.assertGreater(min(told.count(True), told.count(False)), 50)

    def test_by_none(self):
        self.assertTrue(self.assert_given([], YES))
        self.assertFalse(self.assert_given([], NO))
        self.assertFalse(self.assert_given([], A))
        self.assertTrue(self.assert_given([], ("or", A, ("not", A))))
        self.assertEqual(("row", {"a": False}), given_by([], A))

    def test_by_what_clashes(self):
        self.assertTrue(self.assert_given([NO], A))
        self.assertTrue(self.assert_given([A, ("not", A)], NO))

    def test_itself(self):
        self.assertTrue(self.assert_given([("same", A, B)], ("same", A, B)))
        self.assertTrue(self.assert_given([A, ("if", A, B), ("if", B, C)], C))
        self.assertFalse(self.assert_given([B, ("if", A, B), ("if", B, C)], A))

    def test_one_of_twenty_five_within_one_another(self):
        held = deep(25)
        self.assertTrue(self.assert_given([held], held))
        self.assertFalse(self.assert_given([held[1]], held))
        self.assertTrue(self.assert_given([A], nots(23)) or self.assert_given([("not", A)], nots(23)))

    def test_a_great_one(self):
        held = with_names(evenly("and", 200), NINE)
        self.assertTrue(self.assert_given([held], with_names(evenly("or", 200), NINE)))
        self.assertFalse(self.assert_given([with_names(evenly("or", 200), NINE)], held))

    def test_refused(self):
        ten = [("name", name) for name in NINE + ["jj"]]
        self.assert_too_many(9, lambda: given_by(ten, A))
        self.assert_too_many(9, lambda: given_by(ten[:9], ten[9]))
        self.assert_too_many(26, lambda: given_by([A] * 27, A))
        self.assert_too_many(9, lambda: given_by([A] * 27 + ten, A))
        self.assertTrue(self.assert_given([A] * 26, A))
        self.assertTrue(self.assert_given(ten[:9], ("and", *ten[3:5])))


if __name__ == "__main__":
    unittest.main()
