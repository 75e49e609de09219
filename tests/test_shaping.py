"""Sayings of tables and of knots, as the middle tells them: a part of promise 23."""

import unittest
from random import Random

from middlesay.sayings import is_saying, names_of
from middlesay.shaping import parts_in, saying_of_knots, saying_of_table
from middlesay.tables import table
from tests.helping import A, B, C, NO, YES, evenly, nots

NAMES = list("abcdefgh")


def literals_in(saying, yes=True):
    """The literals of a saying without same, by whether they stand behind an odd number of denials."""
    if saying[0] == "name":
        return {(saying[1], yes)}
    if saying[0] == "if":
        return literals_in(saying[1], not yes) | literals_in(saying[2], yes)
    return set().union(*[literals_in(part, yes != (saying[0] == "not")) for part in saying[1:]])


class Parts(unittest.TestCase):

    def test_counted(self):
        for count, saying in ((1, A), (1, NO), (2, ("not", YES)), (3, ("if", A, B)), (399, evenly("or", 200)),
                              (25, nots(24))):
            self.assertEqual(count, parts_in(saying))


class OfTable(unittest.TestCase):

    def assert_saying(self, rows, names):
        saying = saying_of_table(rows, names)
        self.assertIs(is_saying(saying), True)
        self.assertLessEqual(set(names_of(saying)), set(names))
        self.assertEqual(rows, table(saying, names))
        return saying

    def test_all_of_three_names(self):
        for count in range(4):
            for rows in range(1 << (1 << count)):
                self.assert_saying(rows, NAMES[:count])

    def test_some_of_seven_names(self):
        chance = Random(7)
        for number in range(400):
            count = 4 + number % 4
            full = (1 << (1 << count)) - 1
            rows = chance.randint(0, full)
            for told in (rows, rows & chance.randint(0, full), rows | chance.randint(0, full)):
                self.assertLessEqual(parts_in(self.assert_saying(told, NAMES[:count])), 400)

    def test_names_that_make_it_truer_alone(self):
        chance = Random(8)
        for _ in range(200):
            signs = [chance.random() < 0.5 for _ in NAMES[:5]]
            rows = 0
            for _ in range(chance.randint(1, 6)):
                kept = [(name, yes) for name, yes in zip(NAMES, signs) if chance.random() < 0.5]
                both = YES
                for name, yes in kept:
                    both = ("and", both, ("name", name) if yes else ("not", ("name", name)))
                rows |= table(both, NAMES[:5])
            self.assertLessEqual(literals_in(self.assert_saying(rows, NAMES[:5])), set(zip(NAMES, signs)))


class OfKnots(unittest.TestCase):

    def test_small_ones(self):
        for knots, saying in (
                ([("any", ())], NO), ([("none", ())], YES), ([("any", (("a", True),))], A),
                ([("none", (("a", True),))], ("not", A)), ([("none", (("a", False), ("b", False)))], ("and", A, B)),
                ([("any", (("a", True), ("b", False)))], ("or", A, ("not", B))),
                ([("any", (("a", True),)), ("any", (("b", True),)), ("or", 0, 1)], ("or", A, B)),
                ([("any", (("a", True),)), ("any", (("b", True),)), ("and", 0, 1)], ("and", A, B)),
                ([("any", (("a", True),)), ("any", ()), ("and", 0, 1)], NO),
                ([("any", (("a", True),)), ("any", ()), ("or", 1, 0)], A),
                ([("any", (("a", True),)), ("none", ()), ("and", 0, 1)], A),
                ([("any", (("a", True),)), ("none", ()), ("or", 0, 1)], YES)):
            self.assertEqual(saying, saying_of_knots(knots))

    def test_pick(self):
        knots = [("any", (("a", True),)), ("any", (("b", True),)), ("pick", "c", 0, 1)]
        saying = saying_of_knots(knots)
        self.assertEqual(table(("and", ("or", ("name", "c"), A), ("if", ("name", "c"), B)), ["a", "b", "c"]),
                         table(saying, ["a", "b", "c"]))

    def test_pick_of_what_never_or_always_holds(self):
        none, both, a = ("any", ()), ("none", ()), ("any", (("a", True),))
        for first, second, saying in ((none, a, ("and", C, A)), (a, none, ("and", A, ("not", C))),
                                      (both, a, ("or", ("not", C), A)), (a, both, ("or", C, A)), (none, none, NO),
                                      (both, both, YES), (none, both, C), (both, none, ("not", C))):
            told = saying_of_knots([first, second, ("pick", "c", 0, 1)])
            self.assertEqual(table(saying, ["a", "c"]), table(told, ["a", "c"]))
            self.assertLessEqual(parts_in(told), parts_in(saying))

    def test_knots_of_chance(self):
        chance = Random(9)
        for _ in range(300):
            knots, rows = [], []
            full = 0xFFFF
            columns = {"a": 0xAAAA, "b": 0xCCCC, "c": 0xF0F0, "d": 0xFF00}
            for number in range(chance.randint(1, 14)):
                kind = chance.choice(["any", "none"] if number < 2 else ["any", "none", "or", "and", "pick"])
                if kind in ("any", "none"):
                    literals = [(name, chance.random() < 0.5) for name in "abcd" if chance.random() < 0.4]
                    some = 0
                    for name, yes in literals:
                        some |= columns[name] if yes else full ^ columns[name]
                    knots.append((kind, tuple(literals)))
                    rows.append(some if kind == "any" else full ^ some)
                    continue
                i, j, name = chance.randrange(number), chance.randrange(number), chance.choice("abcd")
                knots.append((kind, name, i, j) if kind == "pick" else (kind, i, j))
                picked = (columns[name] & rows[j]) | (rows[i] & ~columns[name])
                rows.append({"or": rows[i] | rows[j], "and": rows[i] & rows[j], "pick": picked}[kind])
            saying = saying_of_knots(knots)
            if saying is not None:
                self.assertIs(is_saying(saying), True)
                self.assertEqual(rows[-1], table(saying, list("abcd")))

    def test_many_hung_flat(self):
        names = [f"{first}{second}" for first in "abcdefghij" for second in "abcdefghij"]
        knots = [("any", (("zz", True),))]
        for name in names:
            knots += [("any", ((name, True),)), ("or", len(knots) - 1, len(knots))]
        saying = saying_of_knots(knots)
        self.assertIs(is_saying(saying), True)
        self.assertEqual(201, parts_in(saying))
        self.assertEqual(sorted(names + ["zz"]), names_of(saying))

    def test_too_great(self):
        names = [f"{first}{second}" for first in "abcdefghijklmno" for second in "abcdefghijklmno"]
        knots = [("any", (("zz", True),))]
        for name in names:
            knots += [("any", ((name, True),)), ("or", len(knots) - 1, len(knots))]
        self.assertIsNone(saying_of_knots(knots))
        self.assertIsNone(saying_of_knots(knots + [("and", 0, len(knots) - 1)]))
        knots = [("any", (("zz", True),))]
        for number in range(40):
            knots += [("any", ((names[number], True),)), ("and" if number % 2 else "or", len(knots) - 1, len(knots))]
        self.assertIsNone(saying_of_knots(knots))


if __name__ == "__main__":
    unittest.main()
