"""Search trees and stairs of clauses: promise 30, as far as it speaks of them."""

import unittest
from itertools import product
from random import Random

from middlesay.crossing import from_tree, sayings_of, to_tree
from middlesay.errors import TooGreat
from middlesay.search import search
from middlesay.sequents import bound_of, is_stair, sequent, steps_in, uncut
from middlesay.trees import asks, chain_of_tree, is_right, tree_of
from tests.chaining import clause, clauses, names_of_clauses, pigeons, some_clashes
from tests.helping import A, B, C, NO
from tests.stairing import is_plain_stair, some_stair, steps_of

SIXTY = [f"x{first}{second}" for first in "abcdef" for second in "abcdefghij"]


def cuts_of(stair):
    """The sayings that are cut on, sorted."""
    told, waiting = [], [stair]
    while waiting:
        part = waiting.pop()
        told += [part[1]] if part[0] == "cut" else []
        waiting += part[2] if len(part) == 3 else ()
    return sorted(told)


def asked_in(tree):
    return [] if tree[0] == "end" else sorted([tree[1], *asked_in(tree[2]), *asked_in(tree[3])])


def ladder():
    """Clauses and a right tree of sixty asks on a way, each of whose ends has a literal more."""
    rows = [clause(" ".join([*SIXTY[:number], f"-{SIXTY[number]}"])) for number in range(60)]
    rows.append(clause(" ".join(SIXTY)))
    tree = ("end", rows[-1])
    for number in reversed(range(60)):
        tree = ("ask", SIXTY[number], ("end", rows[number]), tree)
    return rows, tree


def row_of_sixty():
    """Clauses of two literals at most and a right tree of sixty asks on a way."""
    rows = [clause(SIXTY[0])] + [clause(f"-{one} {two}") for one, two in zip(SIXTY, SIXTY[1:])]
    rows.append(clause(f"-{SIXTY[-1]}"))
    tree = ("end", rows[-1])
    for number in reversed(range(60)):
        tree = ("ask", SIXTY[number], tree, ("end", rows[number]))
    return rows, tree


def with_words(rows):
    """Clauses whose names are words, of such as have a letter and a figure."""
    return [tuple(sorted([(name[0] + "pqrstuv"[int(name[1])], yes) for name, yes in row])) for row in rows]


class Told(unittest.TestCase):

    def assert_from_tree(self, rows, tree):
        kept = list(rows)
        self.assertTrue(is_right(tree, rows))
        stair = from_tree(tree, rows)
        self.assertEqual(kept, rows)
        self.assertEqual(stair, from_tree(tree, rows))
        self.assertTrue(is_plain_stair(sayings_of(rows), [], stair))
        self.assertIs(is_stair(sayings_of(rows), [], stair), True)
        self.assertEqual([("name", name) for name in asked_in(tree)], cuts_of(stair))
        return stair

    def assert_to_tree(self, rows, stair):
        kept = list(rows)
        tree = to_tree(rows, stair)
        self.assertEqual(kept, rows)
        self.assertEqual(tree, to_tree(rows, stair))
        self.assertIs(is_right(tree, rows), True)
        self.assertLessEqual(asks(tree), steps_in(stair))
        return tree


class SayingsOf(unittest.TestCase):

    def test_of_each_length(self):
        d = ("name", "d")
        for text, saying in ((".", NO), ("a", A), ("-a", ("not", A)), ("a b", ("or", A, B)),
                             ("-a b", ("or", ("not", A), B)), ("a -b c", ("or", ("or", A, ("not", B)), C)),
                             ("a b c d", ("or", ("or", ("or", A, B), C), d))):
            self.assertEqual([saying], sayings_of([clause(text)]))

    def test_one_for_each_in_their_order(self):
        self.assertEqual([B, NO, A, B], sayings_of(clauses("b, ., a, b")))
        self.assertEqual([], sayings_of([]))


class FromTree(Told):

    def test_of_plain_trees(self):
        self.assertEqual(("shut", NO), self.assert_from_tree([()], ("end", ())))
        rows = clauses("a, -a")
        tree = ("ask", "a", ("end", rows[1]), ("end", rows[0]))
        stair = ("cut", A, (("shut", A), ("left", ("not", A), (("shut", A),))))
        self.assertEqual(stair, self.assert_from_tree(rows, tree))
        rows = clauses("a b, -a, -b")
        tree = ("ask", "a", ("end", rows[1]), ("ask", "b", ("end", rows[2]), ("end", rows[0])))
        self.assert_from_tree(rows, tree)
        self.assert_from_tree(rows[::-1] + clauses("c, a b c"), tree)

    def test_of_trees_of_several_kinds(self):
        for told in some_clashes():
            self.assert_from_tree(told.givens(), tree_of(told))

    def test_sixty_asks_on_a_way(self):
        for rows, tree in (ladder(), row_of_sixty()):
            self.assertEqual(60, steps_of(self.assert_from_tree(rows, tree)).count("cut"))

    def test_two_hundred_clauses(self):
        rows, tree = row_of_sixty()
        others = [clause(f"{one} -{two}") for one, two in zip(SIXTY[::2] * 5, SIXTY[7:] + SIXTY + SIXTY[3:])]
        rows = list(dict.fromkeys(others + rows))[:139] + rows
        self.assertEqual(200, len(rows))
        self.assert_from_tree(rows, tree)
        names = SIXTY[:7]
        rows = [tuple(zip(names, signs)) for signs in product((False, True), repeat=7)]
        self.assert_to_tree(rows, self.assert_from_tree(rows, tree_of(search(rows)[1])))


class ToTree(Told):

    def test_of_plain_stairs(self):
        self.assertEqual(("end", ()), self.assert_to_tree([()], ("shut", NO)))
        rows = clauses("a, -a")
        stair = ("left", ("not", A), (("shut", A),))
        self.assertEqual(("ask", "a", ("end", rows[1]), ("end", rows[0])), self.assert_to_tree(rows, stair))
        ors = ("left", ("or", A, B), (("left", ("not", A), (("shut", A),)), ("left", ("not", B), (("shut", B),))))
        self.assert_to_tree(clauses("a b, -a, -b"), ors)

    def test_of_trees(self):
        for told in some_clashes():
            rows, tree = told.givens(), tree_of(told)
            self.assertLessEqual(asks(self.assert_to_tree(rows, from_tree(tree, rows))), asks(tree))
        for rows, tree in (ladder(), row_of_sixty()):
            self.assertEqual(tree, self.assert_to_tree(rows, from_tree(tree, rows)))

    def test_of_the_programs_stairs(self):
        for told in some_clashes():
            rows = told.givens()
            self.assert_to_tree(rows, sequent(sayings_of(rows), [])[1])
        for rows, _ in (row_of_sixty(), ladder()):
            self.assert_to_tree(rows, sequent(sayings_of(rows), [])[1])
        rows = with_words(pigeons(4, 3))
        self.assert_to_tree(rows, sequent(sayings_of(rows), [])[1])

    def test_of_stairs_rid_of_their_cuts(self):
        count = 0
        for told in some_clashes():
            rows = told.givens()
            stair = from_tree(tree_of(told), rows)
            try:
                free = uncut(sayings_of(rows), [], stair)
            except TooGreat:
                continue
            count += 1
            self.assertTrue(is_plain_stair(sayings_of(rows), [], free))
            self.assertLessEqual(steps_in(free), bound_of(stair))
            self.assert_to_tree(rows, free)
        self.assertLess(100, count)

    def test_of_stairs_of_chance(self):
        for number, told in enumerate(some_clashes()):
            chance = Random(number)
            rows = told.givens()
            chance.shuffle(rows)
            names = names_of_clauses(rows) + ["zz"]
            left = frozenset(sayings_of(rows))
            for share, most_within in ((0, 0), (0.3, 4), (0.5, 6)):
                stair = some_stair(chance, left, frozenset(), names, share, most_within, False)
                if steps_in(stair) < 3000:
                    self.assert_to_tree(rows, stair)

    def test_cuts_on_a_name_again_and_on_names_of_no_clause(self):
        rows = clauses("a, -a")
        plain = ("left", ("not", A), (("shut", A),))
        for saying in (A, B):
            stair = plain
            for _ in range(100):
                stair = ("cut", saying, (stair, plain))
            self.assertEqual(1, asks(self.assert_to_tree(rows, stair)))
        rows = clauses("a, -a, b c, -b -c")
        ors = ("left", ("or", B, C), (plain, ("cut", B, (plain, plain))))
        for stair in (ors, ("cut", C, (ors, plain)), ("cut", C, (plain, ors))):
            self.assertEqual(1, asks(self.assert_to_tree(rows, stair)))

    def test_a_part_of_a_clause_that_is_a_clause_too(self):
        rows = clauses("a b, a b c, -a, -b, -c")
        whole = sayings_of(rows)[1]
        apart = sequent([("or", A, B), ("not", A), ("not", B)], [])[1]
        stair = ("left", whole, (apart, ("left", ("not", C), (("shut", C),))))
        self.assert_to_tree(rows, stair)
        self.assert_to_tree(rows, ("left", whole, (apart, apart)))
        self.assert_to_tree(rows[1:], stair)


class AndBack(Told):

    def test_chains_trees_and_stairs(self):
        for told in some_clashes():
            rows = told.givens()
            tree = self.assert_to_tree(rows, from_tree(tree_of(told), rows))
            self.assertEqual((), chain_of_tree(tree).last())
            self.assertLessEqual(set(chain_of_tree(tree).givens()), set(rows))


if __name__ == "__main__":
    unittest.main()
