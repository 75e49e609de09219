"""Names fixed and free: promise 28, and 3 as far as it speaks of them."""

import unittest
from random import Random

from middlesay.chains import Chain, comes_to
from middlesay.deciding import decided, given_by
from middlesay.defining import defined
from middlesay.errors import NoName, TooMany
from middlesay.sayings import is_saying
from middlesay.sayingtexts import read_saying
from tests.helping import A, B, C, D, NO, YES, evenly, plain_names, plain_truth, rows_of, some_sayings


def sayings_of(*texts):
    return [read_saying(text) for text in texts]


class Told(unittest.TestCase):

    def assert_defined(self, sayings, name, by=None):
        kept = list(sayings), by if by is None else list(by)
        told = defined(sayings, name) if by is None else defined(sayings, name, by=by)
        self.assertEqual(kept, (sayings, by))
        self.assertEqual(told, defined(sayings, name, by=by))
        self.assertIs(tuple, type(told))
        names = sorted(set().union(*[plain_names(saying) for saying in sayings]))
        others = [other for other in names if other != name] if by is None else by
        held = [row for row in rows_of(names) if all(plain_truth(saying, row) for saying in sayings)]
        if told[0] == "fixed":
            self.assert_fixed(told, sayings, name, others, held)
        else:
            word, row, other = told
            self.assertEqual("free", word)
            self.assertIn(row, held)
            self.assertIn(other, held)
            self.assertEqual([row[held_by] for held_by in others], [other[held_by] for held_by in others])
            self.assertNotEqual(row[name], other[name])
        return told

    def assert_fixed(self, told, sayings, name, others, held):
        _, saying, first, second = told
        self.assertIs(is_saying(saying), True)
        self.assertLessEqual(plain_names(saying), set(others))
        for row in held:
            self.assertIs(plain_truth(saying, row), row[name])
        self.assertEqual(given_by(sayings + [("name", name)], saying), first)
        self.assertEqual(given_by(sayings + [saying], ("name", name)), second)
        for word, clauses, paper in (first, second):
            self.assertEqual("chain", word)
            self.assertIs(Chain, type(paper))
            self.assertTrue(comes_to(paper, clauses, ()))

    def assert_no_name(self, lacking, sayings, name, by=None):
        with self.assertRaises(NoName) as caught:
            defined(sayings, name, by=by)
        self.assertEqual(lacking, caught.exception.name)
        self.assertIsInstance(caught.exception, KeyError)


class Defined(Told):

    def test_fixed(self):
        told = self.assert_defined(sayings_of("a is b and c"), "a")
        self.assertEqual("fixed", told[0])
        self.assertEqual(1, sum(plain_truth(told[1], row) for row in rows_of("bc")))
        self.assertEqual("fixed", self.assert_defined(sayings_of("a or b", "not a or not b"), "a", ["b"])[0])
        self.assertEqual("fixed", self.assert_defined(sayings_of("a is b", "b is c"), "a", ["c"])[0])

    def test_free(self):
        self.assertEqual("free", self.assert_defined(sayings_of("a or b"), "a")[0])
        self.assertEqual("free", self.assert_defined(sayings_of("a is b"), "a", [])[0])
        self.assertEqual("free", self.assert_defined(sayings_of("a is b and c"), "a", ["c"])[0])
        self.assertEqual("free", self.assert_defined(sayings_of("a or not a"), "a")[0])

    def test_by_bare(self):
        self.assertEqual(("fixed", YES), self.assert_defined(sayings_of("b and a"), "a", [])[:2])
        self.assertEqual(("fixed", NO), self.assert_defined(sayings_of("a gives b", "not b"), "a", [])[:2])
        self.assertEqual(("fixed", YES), self.assert_defined([A], "a")[:2])

    def test_by_in_any_order_and_a_name_twice(self):
        sayings = sayings_of("a is b or c and d", "d is e")
        for by in (["d", "c", "b"], ["b", "c", "e"], ["c", "b", "d", "b", "c"], ["e", "d", "c", "b"], ["b", "c"]):
            self.assertEqual("free" if by == ["b", "c"] else "fixed", self.assert_defined(sayings, "a", by)[0])

    def test_sayings_that_clash(self):
        for sayings in ([A, ("not", A)], [("and", A, B), ("not", B)], [NO, ("or", A, B)], [("and", A, NO)]):
            for by in (None, []):
                self.assertEqual("fixed", self.assert_defined(sayings, "a", by)[0])

    def test_of_several_kinds(self):
        told = set()
        for number in range(300):
            chance = Random(number)
            sayings = some_sayings(number, 1 + number % 5, list("abcdef")[:1 + number % 6], 4)
            names = sorted(set().union(*[plain_names(saying) for saying in sayings]))
            if names:
                name = chance.choice(names)
                told.add(self.assert_defined(sayings, name)[0])
                by = [other for other in names if other != name and chance.random() < 0.6]
                told.add(self.assert_defined(sayings, name, by)[0])
        self.assertEqual({"fixed", "free"}, told)

    def test_twenty_five_sayings(self):
        sayings = [("or", A, ("name", "bcdef"[number % 5])) for number in range(25)]
        self.assertEqual("free", self.assert_defined(sayings, "a")[0])
        self.assertEqual("fixed", self.assert_defined(sayings[:20] + [("same", A, B)] * 5, "a")[0])

    def test_great_sayings(self):
        great = evenly("and", 100)
        self.assertEqual("fixed", self.assert_defined([("same", B, great), ("or", great, C)] * 12, "b")[0])
        self.assertEqual("fixed", self.assert_defined([evenly("or", 200), ("if", A, D)], "d", [])[0])

    def test_of_what_is_told(self):
        first = self.assert_defined(sayings_of("a is b and c", "b is d"), "a")[1]
        self.assertEqual("fixed", self.assert_defined([("same", ("name", "x"), first), first, ("not", C)], "x")[0])
        self.assertEqual("clash", decided([first], [("not", first)])[0])

    def test_rows_are_new(self):
        sayings = sayings_of("a or b")
        told = defined(sayings, "a")
        told[1].clear()
        self.assert_defined(sayings, "a")


class Refused(Told):

    def test_names_that_arent_theirs(self):
        sayings = sayings_of("c or d", "e")
        self.assert_no_name("a", sayings, "a")
        self.assert_no_name("a", [], "a")
        self.assert_no_name("a", [YES, NO], "a", [])
        self.assert_no_name("a", sayings, "a", ["b", "c"])
        self.assert_no_name("a", sayings, "b", ["x", "c", "a"])
        self.assert_no_name("x", sayings, "c", ["d", "x", "y"])
        self.assert_no_name("zz", sayings, "c", ["zz"])

    def test_the_name_itself(self):
        sayings = sayings_of("c or d", "e")
        self.assert_no_name("d", sayings, "d", ["c", "d", "e"])
        self.assert_no_name("d", sayings, "d", ["x", "d"])
        self.assert_no_name("a", sayings, "d", ["d", "a"])
        self.assert_no_name("x", sayings, "x", ["x"])

    def test_too_many_names(self):
        six = [("name", name) for name in "abcdef"]
        self.assertEqual("fixed", self.assert_defined(six, "a")[0])
        for more in (1, 3, 9):
            with self.assertRaises(TooMany) as caught:
                defined(six + [("name", name) for name in "ghijklmno"[:more]], "a")
            self.assertEqual(6, caught.exception.most)

    def test_the_name_goes_ahead_of_too_many(self):
        seven = [("name", name) for name in "abcdefg"]
        self.assert_no_name("h", seven, "a", ["h"])
        self.assert_no_name("a", seven, "a", ["a"])
        self.assert_no_name("x", seven, "x")


if __name__ == "__main__":
    unittest.main()
