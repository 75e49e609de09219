"""Papers of middles and the order of labellings: promises 24 and 25, and 3 as far as it speaks of papers."""

import unittest
from random import Random

from middlesay.chains import Chain, comes_to
from middlesay.deciding import decided
from middlesay.errors import NoOrder
from middlesay.middles import Middle
from middlesay.papers import papers, stronger
from middlesay.search import search
from middlesay.traces import chain_of_trace, first_wrong, trace_of
from middlesay.trees import chain_of_tree, tree_of
from middlesay.turning import lightened, shared, trimmed
from middlesay.unfolding import regular, unfolded
from tests.chaining import chain, clause, clauses, names_of_clauses, pigeons, some_clashes
from tests.helping import A, B, C, some_sayings
from tests.siding import MARKS, ONE, OTHER, PLAIN, some_middles, some_sides, spots_of


def literals_given(told):
    return sum(len(step[1]) for step in told.steps() if step[0] == "given")


class Told(unittest.TestCase):

    def assert_papers(self, middle, told, one, other):
        kept = middle.knots(), told.steps()
        both = papers(middle)
        self.assertIs(tuple, type(both))
        self.assertEqual(2, len(both))
        knots, last = middle.clauses(), f"m{len(middle) - 1}"
        for paper, side, yes in zip(both, (one, other), (True, False)):
            self.assertIs(Chain, type(paper))
            self.assertTrue(comes_to(paper, side + knots, ((last, yes),)))
            self.assertLessEqual(len(paper), 6 * len(told) + 2 * literals_given(told))
        self.assertEqual(both, papers(middle))
        self.assertEqual(kept, (middle.knots(), told.steps()))
        return both

    def assert_stronger(self, first, second, told):
        paper = stronger(first, second)
        self.assertIs(Chain, type(paper))
        ends = tuple(sorted([(f"m{len(first) - 1}", False), (f"n{len(first) - 1}", True)]))
        self.assertTrue(comes_to(paper, first.clauses() + second.clauses("n"), ends))
        self.assertLessEqual(len(paper), 10 * len(told) + 2 * literals_given(told))
        self.assertEqual(paper, stronger(first, second))
        names = sorted(set(first.names() + second.names()))
        if len(names) <= 12:
            self.assertEqual(0, first.table(names) & ~second.table(names))

    def assert_no_order(self, spot, first, second):
        with self.assertRaises(NoOrder) as caught:
            stronger(first, second)
        self.assertEqual(spot, caught.exception.spot)
        self.assertIsInstance(caught.exception, LookupError)


class Papers(Told):

    def test_by_each_way(self):
        for way in MARKS:
            self.assert_papers(Middle(PLAIN, ONE, OTHER, way=way), PLAIN, ONE, OTHER)

    def test_by_marks_of_all_kinds(self):
        for first in MARKS:
            for second in MARKS:
                middle = Middle(PLAIN, ONE, OTHER, marks={(1, "b"): first, (3, "b"): second})
                self.assert_papers(middle, PLAIN, ONE, OTHER)

    def test_of_one_given_empty_clause(self):
        told = chain(".")
        for way in MARKS:
            for one, other in (([()], []), ([], [()]), ([()], [()])):
                self.assert_papers(Middle(told, one, other, way=way), told, one, other)

    def test_chains_of_several_kinds_by_marks_of_all_kinds(self):
        for middle, told, one, other in some_middles():
            self.assert_papers(middle, told, one, other)

    def test_all_of_one_side(self):
        for told in some_clashes()[:30]:
            rows = told.givens()
            for way in MARKS:
                self.assert_papers(Middle(told, rows, [], way=way), told, rows, [])
                self.assert_papers(Middle(told, [], rows, way=way), told, [], rows)
                self.assert_papers(Middle(told, rows, rows, way=way), told, rows, rows)

    def test_of_what_is_told(self):
        for number in range(120):
            sayings = some_sayings(3000 + number, 4, list("abcd"), 4)
            told = decided(sayings[:2], sayings[2:])
            if told[0] == "clash":
                _, one, other, clash = told
                for way in MARKS:
                    self.assert_papers(Middle(clash, one, other, way=way), clash, one, other)

    def test_of_great_ones(self):
        rows = pigeons(6, 5)
        clash = search(rows)[1]
        for way in MARKS:
            self.assert_papers(Middle(clash, rows[:20], rows[20:], way=way), clash, rows[:20], rows[20:])

    def test_new_each_time(self):
        middle = Middle(PLAIN, ONE, OTHER)
        first, second = papers(middle)
        first.steps().clear()
        second.clauses().clear()
        self.assertEqual((first, second), papers(middle))


class Stronger(Told):

    def test_by_each_two_ways(self):
        for low, first in enumerate(MARKS):
            for high, second in enumerate(MARKS):
                weak, strong = Middle(PLAIN, ONE, OTHER, way=first), Middle(PLAIN, ONE, OTHER, way=second)
                if low <= high:
                    self.assert_stronger(weak, strong, PLAIN)
                else:
                    self.assert_no_order((1, "b"), weak, strong)

    def test_of_one_given_empty_clause(self):
        told = chain(".")
        for one, other in (([()], []), ([], [()])):
            self.assert_stronger(Middle(told, one, other, way="one"), Middle(told, one, other, way="other"), told)

    def test_the_least_where_it_is_above(self):
        first = Middle(PLAIN, ONE, OTHER, marks={(1, "b"): "other", (3, "b"): "one"})
        second = Middle(PLAIN, ONE, OTHER, marks={(1, "b"): "both", (3, "b"): "both"})
        self.assert_no_order((3, "b"), first, second)
        self.assert_no_order((1, "b"), second, first)
        told = chain("a b10 b2, -a, = 0 1 a, -b10, = 2 3 b10, -b2, = 4 5 b2")
        one, other = clauses("a b10 b2"), clauses("-a, -b10, -b2")
        plain = Middle(told, one, other)
        for spots, least in (([(0, "b2"), (0, "b10")], (0, "b10")), ([(3, "b10"), (1, "a")], (1, "a")),
                             ([(5, "b2"), (3, "b10")], (3, "b10")), ([(5, "b2"), (0, "b2")], (0, "b2"))):
            self.assert_no_order(least, Middle(told, one, other, marks={spot: "one" for spot in spots}), plain)
            self.assert_no_order(least, plain, Middle(told, one, other, marks={spot: "other" for spot in spots}))

    def test_chains_of_several_kinds_by_marks_of_all_kinds(self):
        refused = 0
        for number, (told, one, other, way, marks) in enumerate(some_sides()):
            chance = Random(number)
            first = Middle(told, one, other, way=way, marks=marks)
            spots = spots_of(told, one)
            low = {spot: MARKS.index(marks.get(spot, way)) for spot in spots}
            higher = {spot: MARKS[chance.randint(low[spot], 2)] for spot in spots}
            self.assert_stronger(first, Middle(told, one, other, marks=higher), told)
            self.assert_stronger(Middle(told, one, other, way="other"), first, told)
            self.assert_stronger(first, Middle(told, one, other, way="one"), told)
            self.assert_stronger(first, first, told)
            for most in (1, len(spots)):
                mixed = {spot: chance.choice(MARKS) if place < most else higher[spot]
                         for place, spot in enumerate(spots)}
                second = Middle(told, one, other, marks=mixed)
                above = [spot for spot in spots if low[spot] > MARKS.index(mixed[spot])]
                if above:
                    self.assert_no_order(min(above), first, second)
                    refused += 1
                else:
                    self.assert_stronger(first, second, told)
        self.assertGreater(refused, 50)

    def test_of_great_ones(self):
        rows = pigeons(6, 5)
        clash = search(rows)[1]
        middles = [Middle(clash, rows[:20], rows[20:], way=way) for way in MARKS]
        self.assert_stronger(middles[0], middles[1], clash)
        self.assert_stronger(middles[1], middles[2], clash)
        self.assert_stronger(middles[0], middles[2], clash)


class Whole(Told):
    """Chains told and handed in, turned to trees and traces and back, and what is read off them."""

    def assert_all(self, told, one, other):
        self.assertTrue(comes_to(told, one + other, ()))
        middles = [Middle(told, one, other, way=way) for way in MARKS]
        for middle in middles:
            self.assert_papers(middle, told, one, other)
        self.assert_stronger(middles[0], middles[1], told)
        self.assert_stronger(middles[1], middles[2], told)

    def assert_turned(self, told, one, other):
        self.assert_all(told, one, other)
        for turned in (trimmed(told), shared(told), lightened(told)):
            self.assert_all(turned, one, other)
        if told.steps()[-1][0] == "met":
            trace = trace_of(told)
            self.assertIsNone(first_wrong(trace, one + other))
            self.assert_all(chain_of_trace(trace, one + other), one, other)
        short = lightened(told)
        tree = tree_of(short, most=10 ** 4)
        self.assert_all(chain_of_tree(tree), one, other)
        self.assert_all(regular(unfolded(short, most=10 ** 5)), one, other)

    def test_of_sayings(self):
        for number in range(60):
            sayings = some_sayings(4000 + number, 4, list("abc"), 4)
            told = decided(sayings[:2], sayings[2:])
            if told[0] == "clash":
                _, one, other, clash = told
                self.assert_turned(clash, one, other)

    def test_of_chains_of_chance(self):
        for told in some_clashes()[:60]:
            rows = trimmed(told).givens()
            half = len(rows) // 2
            self.assert_turned(trimmed(told), rows[:half], rows[half:])

    def test_of_a_middles_own_clauses(self):
        told = decided([("and", A, B), ("if", A, C)], [("not", ("and", B, C))])
        _, one, other, clash = told
        for way in MARKS:
            middle = Middle(clash, one, other, way=way)
            last = f"m{len(middle) - 1}"
            self.assertEqual("chain", search(one + middle.clauses() + [((last, False),)])[0])
            self.assertEqual("chain", search(other + middle.clauses() + [((last, True),)])[0])
            self.assertEqual("row", search(one + middle.clauses() + [((last, True),)])[0])

    def test_names_with_figures(self):
        rows = pigeons(4, 3)
        self.assert_turned(search(rows)[1], rows[:7], rows[7:])
        self.assertEqual(12, len(names_of_clauses(rows)))
        self.assertEqual(clause("a0 a1 a2"), rows[0])


if __name__ == "__main__":
    unittest.main()
