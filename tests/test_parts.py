"""Parts on a tree: promise 26, and 3 as far as it speaks of them."""

import unittest
from random import Random

from middlesay.chains import Chain, comes_to
from middlesay.deciding import decided
from middlesay.errors import NoChain, NoTree, NoWay
from middlesay.middles import Middle
from middlesay.parts import Parts
from middlesay.search import search
from middlesay.unfolding import unfolded
from tests.chaining import chain, clause, clauses, names_of_clauses, pigeons, some_clashes
from tests.helping import ODD_THINGS, some_sayings
from tests.siding import MARKS

LETTERS = "abcdefghijklmnopqrstuvwxyz"
# a, a gives b, b gives c, not c: a part each.
ROW = chain("a, -a b, = 0 1 a, -b c, = 2 3 b, -c, = 4 5 c")
FOUR = [clauses("a"), clauses("-a b"), clauses("-b c"), clauses("-c")]
TREES = ([None, 0, 1, 2], [None, 0, 0, 0], [None, 0, 1, 1], [None, 0, 0, 2], [None, 0, 0, 1])


def beneath(up, part):
    """The numbers of the parts at and beneath this one."""
    told = [part]
    for number, above in enumerate(up):
        if above in told and number not in told:
            told.append(number)
    return told


def has_twos(up):
    return any(up.count(above) > 1 for above in up if above is not None)


def some_trees():
    """Chains of chance with parts on trees of several shapes, some clauses in several parts."""
    for number, told in enumerate(some_clashes()):
        chance = Random(number)
        count = chance.randint(1, 6)
        parts = [[] for _ in range(count)]
        for row in told.givens():
            for _ in range(chance.choice((1, 1, 2))):
                chance.choice(parts).append(row)
        up = [None] + [chance.randrange(part) for part in range(1, count)]
        yield told, parts, up if number % 3 else [None, *range(count - 1)]


class Told(unittest.TestCase):

    def assert_parts(self, parts, up, told, way):
        kept = [list(part) for part in parts], list(up), told.steps()
        hung = Parts(parts, up, told, way=way)
        first_with = {}
        for number, part in enumerate(parts):
            for row in part:
                first_with.setdefault(row, number)
        for part in range(len(parts)):
            ours = beneath(up, part)
            one = [row for row in told.givens() if first_with[row] in ours]
            other = [row for row in told.givens() if first_with[row] not in ours]
            middle = hung.middle(part)
            self.assertIs(Middle, type(middle))
            self.assertEqual(Middle(told, one, other, way=way).knots(), middle.knots())
            self.assertEqual(middle.clauses("p" + LETTERS[part]), hung.clauses(part))
            self.assert_paper(hung, part, parts, up, told)
        self.assertEqual(0, hung.middle(0).table(hung.middle(0).names()))
        self.assertEqual(kept, ([list(part) for part in parts], list(up), told.steps()))
        return hung

    def assert_paper(self, hung, part, parts, up, told):
        just_beneath = [number for number, above in enumerate(up) if above == part]
        rows = parts[part] + hung.clauses(part)
        last = len(told) - 1
        goal = [(f"p{LETTERS[part]}{last}", True)]
        for number in just_beneath:
            rows = rows + hung.clauses(number)
            goal.append((f"p{LETTERS[number]}{last}", False))
        paper = hung.paper(part)
        self.assertIs(Chain, type(paper))
        self.assertTrue(comes_to(paper, rows, tuple(sorted(goal))))
        self.assertEqual(paper, hung.paper(part))

    def assert_refused(self, error, parts, up, told, **more):
        with self.assertRaises(error) as caught:
            Parts(parts, up, told, **more)
        self.assertIs(error, type(caught.exception))
        self.assertIsInstance(caught.exception, ValueError)


class Hung(Told):

    def test_a_row_of_parts(self):
        hung = self.assert_parts(FOUR, [None, 0, 1, 2], ROW, "other")
        self.assertEqual([("no",), ("not", ("name", "a")), ("not", ("name", "b")), ("not", ("name", "c"))],
                         [hung.middle(part).saying() for part in range(4)])

    def test_trees_of_each_shape_by_each_way(self):
        for up in TREES:
            for way in MARKS:
                if way != "one" or not has_twos(up):
                    self.assert_parts(FOUR, up, ROW, way)

    def test_the_way_is_other_where_it_is_left_out(self):
        plain, told = Parts(FOUR, TREES[0], ROW), Parts(FOUR, TREES[0], ROW, way="other")
        for part in range(4):
            self.assertEqual(told.middle(part).knots(), plain.middle(part).knots())
        rows = clauses("a b, a -b, -a c, -a -c")
        clash = search(rows)[1]
        parts = [rows[:2], rows[2:]]
        self.assertEqual(Middle(clash, parts[1], parts[0], way="other").knots(),
                         Parts(parts, [None, 0], clash).middle(1).knots())

    def test_one_alone(self):
        for way in MARKS:
            self.assert_parts([ROW.givens()], [None], ROW, way)
            self.assert_parts([[()]], [None], chain("."), way)

    def test_bare_parts_and_clauses_that_arent_given(self):
        parts = [[], clauses("a, -a b, x y"), [], clauses("-b c, -c, -x"), []]
        for way in MARKS:
            self.assert_parts(parts, [None, 0, 1, 2, 3], ROW, way)
        for up in ([None, 0, 0, 0, 0], [None, 0, 1, 0, 3]):
            self.assert_parts(parts, up, ROW, "both")
            self.assert_parts(parts, up, ROW, "other")

    def test_a_clause_of_several_parts_is_of_the_first(self):
        parts = [clauses("-c"), clauses("a, -a b"), clauses("a, -b c, -c"), clauses("-c, -a b")]
        for up in ([None, 0, 1, 2], [None, 0, 0, 0], [None, 0, 0, 2]):
            hung = self.assert_parts(parts, up, ROW, "other")
            self.assertEqual("any", hung.middle(1).knots()[0][0])
            self.assertEqual("none", hung.middle(2).knots()[0][0])
            self.assertEqual("none", hung.middle(3).knots()[1][0])

    def test_chains_of_several_kinds(self):
        for told, parts, up in some_trees():
            for way in MARKS:
                if way != "one" or not has_twos(up):
                    self.assert_parts(parts, up, told, way)

    def test_the_middles_beneath_and_the_part_give_its_own(self):
        for told, parts, up in some_trees():
            names = names_of_clauses(told.givens())
            hung = Parts(parts, up, told, way="both")
            for part in range(len(parts)):
                rows = (1 << (1 << len(names))) - 1
                own = [row for row in told.givens() if row in parts[part]]
                for number in range(1 << len(names)):
                    truth = {name: bool(number >> place & 1) for place, name in enumerate(names)}
                    if not all(any(truth[name] is yes for name, yes in row) for row in own):
                        rows &= ~(1 << number)
                for number, above in enumerate(up):
                    if above == part:
                        rows &= hung.middle(number).table(names)
                self.assertEqual(0, rows & ~hung.middle(part).table(names))

    def test_twenty_six_parts(self):
        rows = pigeons(5, 4)
        told = search(rows)[1]
        parts = [rows[number::26] for number in range(26)]
        for up in ([None] + [0] * 25, [None, *range(25)], [None] + [(part - 1) // 2 for part in range(1, 26)]):
            hung = self.assert_parts(parts, up, told, "both")
            self.assertEqual("pz0", sorted(name for row in hung.clauses(25)[:1] for name, _ in row)[-1][:3])

    def test_of_what_is_told(self):
        for number in range(60):
            sayings = some_sayings(number, 4, list("abc"), 4)
            told = decided(sayings[:2], sayings[2:])
            if told[0] == "clash":
                _, one, other, clash = told
                self.assert_parts([other, one], [None, 0], clash, "other")
                self.assert_parts([one, other], [None, 0], unfolded(clash), "one")

    def test_names_with_figures(self):
        told = chain("a1, -a1 p2, = 0 1 a1, -p2, = 2 3 p2")
        self.assert_parts([clauses("a1"), clauses("-p2"), clauses("-a1 p2")], [None, 0, 0], told, "other")


class Kept(Told):

    def test_changing_what_was_handed_in_changes_nothing(self):
        parts, up = [list(part) for part in FOUR], [None, 0, 1, 2]
        hung = Parts(parts, up, ROW)
        kept = [(hung.middle(part).knots(), hung.clauses(part), hung.paper(part)) for part in range(4)]
        parts[0].clear()
        parts[1].append(clause("-c"))
        parts.pop()
        up[3] = 0
        hung.clauses(1).clear()
        hung.middle(1).knots().clear()
        self.assertEqual(kept, [(hung.middle(part).knots(), hung.clauses(part), hung.paper(part)) for part in range(4)])

    def test_parts_beside_one_another(self):
        first, second = Parts(FOUR, TREES[0], ROW), Parts(FOUR, TREES[1], ROW, way="both")
        kept = first.clauses(1), first.paper(1)
        second.paper(1)
        self.assertNotEqual(first.clauses(1), second.clauses(1))
        self.assertEqual(kept, (first.clauses(1), first.paper(1)))


class Refused(Told):

    def test_no_tree(self):
        for up in ([], [None], [None, 0, 1], [None, 0, 1, 2, 3], [0, 0, 1, 2], [None, None, 0, 0], [None, 1, 1, 1],
                   [None, 0, 2, 2], [None, 0, 1, 3], [None, 0, 1, 4], [None, -1, 0, 0], [None, False, 0, 0],
                   [None, 0, True, 0], [None, "0", 0, 0], [None, 0, 0, [0]], (None, 0, 1, 2), {0: None}, "n012"):
            self.assert_refused(NoTree, FOUR, up, ROW)
        for up in ODD_THINGS:
            self.assert_refused(NoTree, FOUR, up, ROW)
            if type(up) is not int or up < 0 or up > 2:
                self.assert_refused(NoTree, FOUR, [None, 0, 1, up], ROW)

    def test_no_way(self):
        for way in ODD_THINGS + ("ones", "other ", "Both"):
            self.assert_refused(NoWay, FOUR, [None, 0, 1, 2], ROW, way=way)
        for up in TREES:
            if has_twos(up):
                self.assert_refused(NoWay, FOUR, up, ROW, way="one")

    def test_no_chain(self):
        for told in (chain("a"), chain("a, -a b, = 0 1 a"), chain("a, -a, = 0 1 a"), chain(".")):
            self.assert_refused(NoChain, FOUR, [None, 0, 1, 2], told)
        self.assert_refused(NoChain, FOUR[:3], [None, 0, 1], ROW)
        self.assert_refused(NoChain, [], [], ROW)
        self.assert_refused(NoChain, [FOUR[0]], [None], chain("a, ."))

    def test_the_tree_goes_ahead_of_the_way_and_that_of_the_chain(self):
        self.assert_refused(NoTree, FOUR, [None, 1, 1, 1], chain("a"), way="none")
        self.assert_refused(NoWay, FOUR, [None, 0, 0, 0], chain("a"), way="none")
        self.assert_refused(NoWay, FOUR, [None, 0, 0, 0], chain("a"), way="one")
        self.assert_refused(NoChain, FOUR, [None, 0, 0, 0], chain("a"), way="both")


if __name__ == "__main__":
    unittest.main()
