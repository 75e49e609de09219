"""Middles: promises 21 to 23, what 25 says of their tables and literals, and 3 as far as it speaks of middles."""

import unittest

from middlesay.deciding import decided
from middlesay.errors import NoChain, NoMark, NoName, TooGreat
from middlesay.literals import is_clause
from middlesay.middles import Middle
from middlesay.sayings import is_saying, names_of
from middlesay.search import search
from middlesay.tables import table
from tests.chaining import chain, clause, clauses, names_of_clauses, pigeons, truths_of
from tests.helping import ODD_THINGS, A, B, C, some_sayings, within
from tests.siding import MARKS, ONE, OTHER, PLAIN, some_middles, some_sides, spots_of

EXCHANGED = {"one": "other", "other": "one", "both": "both"}


class Knots(unittest.TestCase):

    def test_of_each_way(self):
        both = Middle(PLAIN, ONE, OTHER)
        self.assertEqual([("any", ()), ("any", ()), ("or", 0, 1), ("none", ()), ("pick", "b", 2, 3), ("none", ()),
                          ("and", 4, 5)], both.knots())
        self.assertEqual(both.knots(), Middle(PLAIN, ONE, OTHER, way="both", marks=None).knots())
        self.assertEqual(both.knots(), Middle(PLAIN, ONE, OTHER, marks={}).knots())
        other = Middle(PLAIN, ONE, OTHER, way="other")
        self.assertEqual([("any", ()), ("any", (("b", True),)), ("or", 0, 1), ("none", ()), ("and", 2, 3),
                          ("none", ()), ("and", 4, 5)], other.knots())
        one = Middle(PLAIN, ONE, OTHER, way="one")
        self.assertEqual([("any", ()), ("any", ()), ("or", 0, 1), ("none", (("b", False),)), ("or", 2, 3),
                          ("none", ()), ("and", 4, 5)], one.knots())
        for middle in (both, other, one):
            self.assertEqual(7, len(middle))
            self.assertEqual(["b"], middle.names())
            self.assertEqual(0b10, middle.table(["b"]))
            self.assertEqual(0b1100, middle.table(["a", "b"]))
            self.assertEqual(B, middle.saying())

    def test_of_marks_of_all_kinds(self):
        for first in MARKS:
            for second in MARKS:
                middle = Middle(PLAIN, ONE, OTHER, marks={(1, "b"): first, (3, "b"): second})
                knots = middle.knots()
                self.assertEqual(("any", (("b", True),) if first == "other" else ()), knots[1])
                self.assertEqual(("none", (("b", False),) if second == "one" else ()), knots[3])
                kinds = {"one": ("or", 2, 3), "other": ("and", 2, 3), "both": ("pick", "b", 2, 3)}
                self.assertEqual(kinds[first if first == second else "both"], knots[4])
                self.assertEqual(0b10, middle.table(["b"]))

    def test_way_for_those_that_are_left_out(self):
        middle = Middle(PLAIN, ONE, OTHER, way="other", marks={(3, "b"): "one"})
        self.assertEqual({"b": "other", "a": "one"}, middle.marks_of(1))
        self.assertEqual({"b": "one", "c": "other"}, middle.marks_of(3))
        self.assertEqual(("pick", "b", 2, 3), middle.knots()[4])

    def test_literals_are_a_sorted_tuple(self):
        told = chain("a -b c, -a, = 0 1 a, b, = 3 2 b, -c, = 4 5 c")
        middle = Middle(told, clauses("a -b c"), clauses("-a, b, -c"), way="other")
        self.assertEqual(("any", (("a", True), ("b", False), ("c", True))), middle.knots()[0])
        middle = Middle(told, clauses("-a, b, -c"), clauses("a -b c"), way="one")
        self.assertEqual(("none", (("a", True), ("b", False), ("c", True))), middle.knots()[0])
        self.assertEqual(("none", ()), Middle(told, clauses("-a, b, -c"), clauses("a -b c"), way="other").knots()[0])

    def test_one_given_empty_clause(self):
        told = chain(".")
        self.assertEqual([("any", ())], Middle(told, [()], []).knots())
        self.assertEqual([("none", ())], Middle(told, [], [()]).knots())
        self.assertEqual([("any", ())], Middle(told, [()], [()]).knots())
        self.assertEqual((0, 1), (Middle(told, [()], []).table([]), Middle(told, [], [()]).table([])))
        self.assertEqual(("no",), Middle(told, [()], []).saying())
        self.assertEqual(("yes",), Middle(told, [], [()]).saying())

    def test_a_clause_in_both_lists_is_of_the_one_side(self):
        middle = Middle(PLAIN, ONE + OTHER, OTHER, way="other")
        self.assertEqual([], middle.names())
        self.assertEqual(0, middle.table([]))
        self.assertEqual(("any", ()), middle.knots()[5])
        middle = Middle(PLAIN, ONE, OTHER + ONE, way="other")
        self.assertEqual(Middle(PLAIN, ONE, OTHER, way="other").knots(), middle.knots())

    def test_shared_by_steps_that_are_not_needed(self):
        told = chain("c -a, zz, a, -a b, = 2 3 a, -b c, = 4 5 b, -c, = 6 7 c")
        one = clauses("a, -a b, c -a, zz")
        middle = Middle(told, one, OTHER, way="one")
        # By c -a the name c stands in a given step of the one side, too.
        self.assertEqual({"b": "one", "c": "one"}, middle.marks_of(5))
        self.assertEqual(("none", (("b", False), ("c", True))), middle.knots()[5])
        self.assertEqual({"zz": "one"}, middle.marks_of(1))
        plain = Middle(PLAIN, one, OTHER, way="one")
        self.assertEqual({"b": "one", "c": "other"}, plain.marks_of(3))

    def test_the_lists_do_not_make_a_name_shared(self):
        middle = Middle(PLAIN, ONE + clauses("c -a"), OTHER + clauses("a c"), way="other")
        self.assertEqual({"a": "one", "b": "other"}, middle.marks_of(1))
        self.assertEqual({"b": "other", "c": "other"}, middle.marks_of(3))

    def test_for_chains_of_several_kinds_one_knot_for_each_step_over_shared_names(self):
        for middle, told, one, _ in some_middles():
            self.assertEqual(len(told), len(middle))
            self.assertEqual(len(told), len(middle.knots()))
            shared = {name for _, name in spots_of(told, one)}
            self.assertLessEqual(set(middle.names()), shared)
            for number, (step, knot) in enumerate(zip(told.steps(), middle.knots())):
                if step[0] == "met":
                    self.assertEqual(step[1:3], knot[-2:])
                    self.assertIn(knot[0], ("or", "and", "pick"))
                    self.assertEqual(step[3:] if knot[0] == "pick" else (), knot[1:-2])
                else:
                    self.assertEqual("any" if step[1] in one else "none", knot[0])
                    self.assertLessEqual(set(knot[1]), set(step[1]))

    def test_new_each_time(self):
        middle = Middle(PLAIN, ONE, OTHER)
        text = str(middle.knots())
        middle.knots().clear()
        middle.names().clear()
        middle.clauses().clear()
        middle.marks_of(1).clear()
        self.assertEqual(text, str(middle.knots()))
        self.assertEqual(["b"], middle.names())
        self.assertEqual({"a": "one", "b": "both"}, middle.marks_of(1))
        self.assertTrue(middle.clauses())


class Marks(unittest.TestCase):

    def test_of_names_of_one_side_alone(self):
        middle = Middle(PLAIN, ONE, OTHER)
        self.assertEqual([{"a": "one"}, {"a": "one", "b": "both"}, {"b": "both"}, {"b": "both", "c": "other"},
                          {"c": "other"}, {"c": "other"}, {}], [middle.marks_of(number) for number in range(7)])

    def test_those_of_a_meeting(self):
        told = chain("a b, -a b, = 0 1 a, -b, = 2 3 b")
        one, other = clauses("a b, -b"), clauses("-a b")
        for first in MARKS:
            for second in MARKS:
                middle = Middle(told, one, other, marks={(0, "b"): first, (1, "b"): second})
                self.assertEqual({"b": first if first == second else "both"}, middle.marks_of(2))

    def test_carried_on_by_several_meetings(self):
        for middle, told, _, _ in some_middles():
            rows = told.clauses()
            for number, step in enumerate(told.steps()):
                marks = middle.marks_of(number)
                self.assertEqual({name for name, _ in rows[number]}, set(marks))
                if step[0] == "met":
                    first, second = middle.marks_of(step[1]), middle.marks_of(step[2])
                    for name, mark in marks.items():
                        from_two = {found[name] for found in (first, second) if name in found}
                        self.assertEqual(from_two.pop() if len(from_two) == 1 else "both", mark)
                    kind = first[step[3]] if first[step[3]] == second[step[3]] else "both"
                    self.assertEqual({"one": "or", "other": "and", "both": "pick"}[kind], middle.knots()[number][0])

    def test_of_given_steps(self):
        for told, one, other, way, marks in some_sides():
            middle = Middle(told, one, other, way=way, marks=marks)
            spots = spots_of(told, one)
            for number, step in enumerate(told.steps()):
                if step[0] == "given":
                    plain = "one" if step[1] in one else "other"
                    expected = {name: marks.get((number, name), way) if (number, name) in spots else plain
                                for name, _ in step[1]}
                    self.assertEqual(expected, middle.marks_of(number))
                    mark = "other" if step[1] in one else "one"
                    literals = tuple(literal for literal in step[1] if expected[literal[0]] == mark)
                    self.assertEqual(literals, middle.knots()[number][1])


class Refused(unittest.TestCase):

    def test_no_chain_of_the_empty_clause_of_both(self):
        for told, one, other in ((PLAIN, ONE[:1], OTHER), (PLAIN, ONE, OTHER[:1]), (PLAIN, [], []),
                                 (chain("a"), clauses("a"), []), (chain("a b, -a b, = 0 1 a"), clauses("a b, -a b"), []),
                                 (chain("b, a, -a, = 1 2 a"), clauses("a"), clauses("-a")),
                                 (chain("., a"), [()], clauses("a"))):
            for marks in (None, {(99, "zz"): "up"}):
                with self.assertRaises(NoChain) as caught:
                    Middle(told, one, other, marks=marks)
                self.assertIsInstance(caught.exception, ValueError)
                self.assertIs(str, type(caught.exception.why))

    def assert_no_mark(self, spot, marks, **way):
        with self.assertRaises(NoMark) as caught:
            Middle(PLAIN, ONE, OTHER, marks=marks, **way)
        self.assertEqual(spot, caught.exception.spot)
        self.assertIs(tuple, type(caught.exception.spot))
        self.assertIsInstance(caught.exception, LookupError)

    def test_no_given_steps_shared_literal(self):
        for spot in ((0, "a"), (1, "a"), (3, "c"), (0, "b"), (1, "c"), (2, "b"), (4, "b"), (4, "c"), (6, "b"), (7, "b"),
                     (-1, "b"), (-6, "b"), (10 ** 59, "b"), (1, ""), (1, "B"), (1, "b ")):
            for mark in MARKS:
                self.assert_no_mark(spot, {spot: mark})
                self.assert_no_mark(spot, {(1, "b"): mark, spot: mark, (3, "b"): mark})

    def test_a_mark_that_is_none(self):
        for mark in ODD_THINGS + ("any", "One", "one ", "ones", ["one"], ("one",), within(140), {"one": True}):
            self.assert_no_mark((1, "b"), {(1, "b"): mark})
            self.assert_no_mark((3, "b"), {(3, "b"): mark, (1, "b"): "one"})

    def test_the_least_is_told(self):
        self.assert_no_mark((1, "b"), {(3, "b"): None, (1, "b"): 0, (7, "a"): "one"})
        self.assert_no_mark((1, "a"), {(3, "b"): None, (1, "b"): 0, (1, "a"): "one", (2, "a"): "one"})
        self.assert_no_mark((-5, "z"), {(3, "b"): None, (-5, "z"): "one", (10, "a"): "one", (2, "a"): "one"})
        self.assert_no_mark((3, "b"), {(10, "b"): None, (3, "b"): "up"})

    def test_a_way_that_is_no_mark(self):
        self.assert_no_mark((1, "b"), None, way="up")
        self.assert_no_mark((3, "b"), {(1, "b"): "one"}, way="")
        self.assertEqual({"a": "one", "b": "one"}, Middle(
            PLAIN, ONE, OTHER, way="up", marks={(1, "b"): "one", (3, "b"): "other"}).marks_of(1))

    def test_a_shared_name_in_steps_that_have_it_not(self):
        told = chain("a, -a b, = 0 1 a, -b, = 2 3 b, -a, = 0 5 a")
        one, other = clauses("a, -b"), clauses("-a b, -a")
        for spot in ((0, "a"), (1, "a"), (1, "b"), (3, "b"), (5, "a")):
            self.assertEqual("other", Middle(told, one, other, marks={spot: "other"}).marks_of(spot[0])[spot[1]])
        for spot in ((0, "b"), (3, "a"), (5, "b"), (2, "b"), (4, "a"), (6, "a")):
            with self.assertRaises(NoMark) as caught:
                Middle(told, one, other, marks={spot: "other"})
            self.assertEqual(spot, caught.exception.spot)

    def test_the_dict_of_marks_stays_and_changing_it_changes_nothing(self):
        marks = {(1, "b"): "other", (3, "b"): "one"}
        one, other = list(ONE), list(OTHER)
        middle = Middle(PLAIN, one, other, marks=marks)
        self.assertEqual({(1, "b"): "other", (3, "b"): "one"}, marks)
        self.assertEqual((ONE, OTHER), (one, other))
        knots, rows = middle.knots(), middle.clauses()
        marks[(1, "b")] = "one"
        marks[(99, "zz")] = None
        one.clear()
        other.clear()
        self.assertEqual((knots, rows), (middle.knots(), middle.clauses()))
        self.assertEqual({"a": "one", "b": "other"}, middle.marks_of(1))

    def test_by_name_alone(self):
        self.assertRaises(TypeError, Middle, PLAIN, ONE, OTHER, "both")
        self.assertRaises(TypeError, Middle(PLAIN, ONE, OTHER).saying, 400)


class Tables(unittest.TestCase):

    def test_it_follows_from_the_one_side_and_clashes_with_the_other(self):
        for middle, _, one, other in some_middles():
            names = names_of_clauses(one + other)
            held = middle.table(names)
            for number in truths_of(one, names):
                self.assertEqual(1, held >> number & 1)
            for number in truths_of(other, names):
                self.assertEqual(0, held >> number & 1)

    def test_by_names_in_each_order_and_more(self):
        for middle, _, _, _ in some_middles():
            names = middle.names()
            saying = middle.saying()
            for order in (names, names[::-1], names + ["x", "y9"], ["x"] + names[::-1]):
                self.assertEqual(table(saying, order), middle.table(order))

    def test_a_name_lacks(self):
        told = chain("a -b c, -a, = 0 1 a, b, = 3 2 b, -c, = 4 5 c")
        middle = Middle(told, clauses("a -b c"), clauses("-a, b, -c"), way="other")
        self.assertEqual(["a", "b", "c"], middle.names())
        for names, lacking in ((["a", "b"], "c"), (["c", "a", "x"], "b"), (["c"], "a"), ([], "a"), (["b", "x"], "a")):
            with self.assertRaises(NoName) as caught:
                middle.table(names)
            self.assertEqual(lacking, caught.exception.name)
        self.assertEqual(table(("or", ("or", A, ("not", B)), C), list("cabx")), middle.table(list("cabx")))

    def test_the_names_stand_in_any_knot(self):
        # The last knot doesn't lean on the one with b.
        told = chain("-b, b, a, -a, = 2 3 a")
        middle = Middle(told, clauses("b, a"), clauses("-a, -b"), way="other")
        self.assertEqual(["a", "b"], middle.names())
        self.assertRaises(NoName, middle.table, ["a"])
        self.assertEqual(A, middle.saying())


class OfLiterals(unittest.TestCase):

    def test_turned_about(self):
        for told, one, other, way, marks in some_sides():
            other = [row for row in other if row not in one]
            middle = Middle(told, one, other, way=way, marks=marks)
            turned = Middle(told, other, one, way=EXCHANGED[way], marks={s: EXCHANGED[m] for s, m in marks.items()})
            names = middle.names()
            self.assertEqual(names, turned.names())
            self.assertEqual(middle.table(names) ^ ((1 << (1 << len(names))) - 1), turned.table(names))

    def test_by_all_other_those_of_the_one_side_alone(self):
        for told, one, other, _, _ in some_sides():
            ours = {literal for row in told.givens() if row in one for literal in row}
            for knot in Middle(told, one, other, way="other").knots():
                self.assertNotEqual("pick", knot[0])
                self.assertLessEqual(set(knot[1]) if knot[0] == "any" else set(), ours)
                self.assertEqual((), knot[1] if knot[0] == "none" else ())

    def test_by_all_one_denials_of_those_of_the_other_side_alone(self):
        for told, one, other, _, _ in some_sides():
            theirs = {literal for row in told.givens() if row not in one for literal in row}
            for knot in Middle(told, one, other, way="one").knots():
                self.assertNotEqual("pick", knot[0])
                self.assertLessEqual(set(knot[1]) if knot[0] == "none" else set(), theirs)
                self.assertEqual((), knot[1] if knot[0] == "any" else ())


class Sayings(unittest.TestCase):

    def assert_saying(self, middle, **most):
        saying = middle.saying(**most)
        self.assertIs(is_saying(saying), True)
        self.assertLessEqual(set(names_of(saying)), set(middle.names()))
        names = middle.names()
        if len(names) <= 12:
            self.assertEqual(middle.table(names), table(saying, names))
        self.assertEqual(saying, middle.saying(**most))
        return saying

    def test_of_at_most_six_names(self):
        for middle, _, _, _ in some_middles():
            self.assert_saying(middle)

    def test_of_sayings(self):
        for number in range(150):
            sayings = some_sayings(2000 + number, 4, list("abcdef"), 5)
            told = decided(sayings[:2], sayings[2:])
            if told[0] == "clash":
                _, one, other, clash = told
                names = set().union(*[names_of(held) for held in sayings[:2]])
                names &= set().union(*[names_of(held) for held in sayings[2:]])
                for way in MARKS:
                    middle = Middle(clash, one, other, way=way)
                    self.assertLessEqual(set(middle.names()), names)
                    self.assert_saying(middle)

    def test_too_great(self):
        told = chain("a -b c, -a, = 0 1 a, b, = 3 2 b, -c, = 4 5 c")
        middle = Middle(told, clauses("a -b c"), clauses("-a, b, -c"), way="other")
        saying = self.assert_saying(middle)
        count = str(saying).count("(")
        for most in (0, 1, count - 1):
            with self.assertRaises(TooGreat) as caught:
                middle.saying(most=most)
            self.assertEqual(most, caught.exception.most)
            self.assertIsInstance(caught.exception, OverflowError)
        for most in (count, count + 1, 400):
            self.assertEqual(saying, middle.saying(most=most))

    def test_a_name_that_is_no_word(self):
        told = chain("b2 -b10 c, -b2, = 0 1 b2, b10, = 3 2 b10, -c, = 4 5 c")
        middle = Middle(told, clauses("b2 -b10 c"), clauses("-b2, b10, -c"), way="other")
        for most in (0, 1, 400):
            with self.assertRaises(NoName) as caught:
                middle.saying(most=most)
            self.assertEqual("b10", caught.exception.name)
            self.assertIsInstance(caught.exception, KeyError)

    def test_of_many_names(self):
        rows = [tuple(sorted((name[0] + "abcdefg"[int(name[1])], yes) for name, yes in row)) for row in pigeons(6, 5)]
        clash = search(rows)[1]
        for way in MARKS:
            for one in (rows[:30], rows[::2], rows[:5], []):
                middle = Middle(clash, one, [row for row in rows if row not in one], way=way)
                try:
                    self.assert_saying(middle)
                except TooGreat as refused:
                    self.assertEqual(400, refused.most)
                    self.assertGreater(len(middle.names()), 6)

    def test_of_seven_to_nine_names(self):
        told = 0
        for number in range(60):
            sayings = some_sayings(5000 + number, 2, list("abcdefghi"), 7)
            for one, other in ((sayings[:1], [("not", sayings[0])]), (sayings, [("not", sayings[1])])):
                _, one, other, clash = decided(one, other)
                middle = Middle(clash, one, other)
                if len(middle.names()) > 6:
                    told += 1
                    try:
                        self.assert_saying(middle)
                    except TooGreat:
                        self.assertGreater(len(middle.names()), 7)
        self.assertGreater(told, 5)

    def test_a_row_of_many_names_is_told(self):
        names = [first + second for first in "abcdefg" for second in "abcdefgh"]
        rows = [clause(names[0])] + [clause(f"-{name} {behind}") for name, behind in zip(names, names[1:])]
        clash = search(rows + [clause(f"-{names[-1]}")])[1]
        for way in ("other", "one"):
            middle = Middle(clash, rows[::2], rows[1::2] + [clause(f"-{names[-1]}")], way=way)
            self.assertGreater(len(middle.names()), 50)
            self.assert_saying(middle)


class Clauses(unittest.TestCase):

    def assert_clauses(self, middle, letter, rows):
        names = middle.names()
        self.assertEqual([], [row for row in rows if is_clause(row) is not True])
        told = {name for row in rows for name, _ in row}
        knots = middle.knots()
        own = [f"{letter}{number}" for number in range(len(knots))]
        self.assertLessEqual(told, set(own) | set(names))
        places = {name: number for number, name in enumerate(own)}
        for row in rows:
            # The greatest number of a knot that stands in it is of the one that it is told for.
            knot = knots[max(places[name] for name, _ in row if name in places)]
            count = {"or": 2, "and": 2, "pick": 3}.get(knot[0]) or len(knot[1])
            self.assertLessEqual(len(row), count + 1)
        for bits in range(1 << len(names)):
            truth = {name: bool(bits >> place & 1) for place, name in enumerate(names)}
            self.assert_one_way(truth, knots, own, rows)

    def assert_one_way(self, truth, knots, own, rows):
        """Each knot's name is fixed by those ahead of it to what the knot is, and all are true then."""
        known = dict(truth)
        for number, knot in enumerate(knots):
            if knot[0] in ("any", "none"):
                yes = any(truth[name] is plain for name, plain in knot[1]) is (knot[0] == "any")
            else:
                i, j = known[own[knot[-2]]], known[own[knot[-1]]]
                picked = j if truth.get(knot[1]) else i
                yes = {"or": i or j, "and": i and j, "pick": picked}[knot[0]]
            ahead = {**known, own[number]: not yes}
            fixing = [row for row in rows if all(name in ahead for name, _ in row)]
            self.assertTrue(any(all(ahead[name] is not plain for name, plain in row) for row in fixing))
            known[own[number]] = yes
        self.assertTrue(all(any(known[name] is plain for name, plain in row) for row in rows))

    def test_of_each_knot(self):
        for told, one, other, way, marks in some_sides():
            middle = Middle(told, one, other, way=way, marks=marks)
            self.assert_clauses(middle, "m", middle.clauses())

    def test_by_other_letters(self):
        middle = Middle(PLAIN, ONE, OTHER)
        self.assertEqual(middle.clauses(), middle.clauses("m"))
        for letter in ("n", "pa", "abcdefgh"):
            self.assert_clauses(middle, letter, middle.clauses(letter))
            self.assert_clauses(middle, letter, middle.clauses(letter=letter))

    def test_of_a_given_empty_clause(self):
        self.assertEqual(clauses("-m0"), Middle(chain("."), [()], []).clauses())
        self.assertEqual(clauses("m0"), Middle(chain("."), [], [()]).clauses())


if __name__ == "__main__":
    unittest.main()
