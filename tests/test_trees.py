"""Search trees, and Chains turned to them and back: promises 16 and 17."""

import unittest

from middlesay.chains import Chain, comes_to
from middlesay.errors import NoChain, TooGreat
from middlesay.search import search
from middlesay.trees import asks, chain_of_tree, is_right, tree_of
from tests.chaining import chain, clause, clauses, meetings_in, meetings_unfolded, pigeons, some_clashes
from tests.helping import ODD_THINGS, within


def end(text):
    return ("end", clause(text))


def ask(name, yes, no):
    return ("ask", name, yes if isinstance(yes, tuple) else end(yes), no if isinstance(no, tuple) else end(no))


def row_of_asks(names):
    """A tree that asks one name below the other, and the clauses at its ends."""
    tree = ("end", tuple(sorted((name, False) for name in names)))
    rows = [tree[1]]
    for name in reversed(names):
        rows.append(((name, True),))
        tree = ("ask", name, tree, ("end", rows[-1]))
    return tree, rows


ROWS = clauses("a b, a -b, -a c, -a -c, a b c, .")
TREE = ask("a", ask("c", "-a -c", "-a c"), ask("b", "a -b", "a b"))


class Right(unittest.TestCase):

    def assert_right(self, yes, tree, rows):
        self.assertIs(is_right(tree, rows), yes, tree)

    def test_right_ones(self):
        kept = list(ROWS)
        self.assert_right(True, TREE, ROWS)
        self.assert_right(True, end("."), ROWS)
        self.assert_right(True, ask("a", "-a", ask("b", "-b", "a b")), clauses("-a, -b, a b"))
        self.assertEqual(kept, ROWS)

    def test_an_ask_that_no_end_needs(self):
        self.assert_right(True, ask("d", TREE, TREE), ROWS)
        self.assert_right(True, ask("zz9", end("."), TREE), ROWS)
        self.assert_right(True, ask("a", ask("b", ask("c", "-a -c", "-a c"), ask("c", "-a -c", "-a c")),
                                    ask("b", "a -b", "a b")), ROWS)

    def test_a_name_asked_twice_on_a_way(self):
        self.assert_right(False, ask("a", ask("a", ask("c", "-a -c", "-a c"), "a b"), ask("b", "a -b", "a b")), ROWS)
        self.assert_right(False, ask("a", end("."), ask("b", end("."), ask("a", end("."), end(".")))), ROWS)
        # On two ways it may be asked.
        self.assert_right(True, ask("a", ask("b", end("."), end(".")), ask("b", end("."), end("."))), ROWS)

    def test_a_clause_that_is_not_in_the_list(self):
        for lacking in ROWS[:4]:
            self.assert_right(False, TREE, [row for row in ROWS if row != lacking])
        self.assert_right(False, end("."), ROWS[:5])
        self.assert_right(False, end("."), [])
        self.assert_right(False, ask("a", end("-a"), end("a")), clauses("a"))

    def test_a_literal_that_is_not_false(self):
        self.assert_right(False, ask("a", ask("c", "-a c", "-a -c"), ask("b", "a -b", "a b")), ROWS)
        self.assert_right(False, ask("a", ask("b", "a -b", "a b"), ask("c", "-a -c", "-a c")), ROWS)
        self.assert_right(False, ask("a", "a", "-a"), clauses("a, -a"))
        self.assert_right(True, ask("a", "-a", "a"), clauses("a, -a"))

    def test_a_name_that_was_not_asked(self):
        self.assert_right(False, ask("a", ask("c", "-a -c", "-a c"), ask("b", "a -b", "a b c")), ROWS)
        self.assert_right(False, end("a b"), ROWS)
        # It is asked, but on another way.
        self.assert_right(False, ask("a", ask("b", end("."), end(".")), "a b"), ROWS)

    def test_sixty_asks_on_a_way_and_sixty_one(self):
        names = [f"a{number}" for number in range(61)]
        tree, rows = row_of_asks(names[:60])
        self.assert_right(True, tree, rows)
        self.assertEqual(60, asks(tree))
        tree, rows = row_of_asks(names)
        self.assert_right(False, tree, rows)
        tree, rows = row_of_asks(names[:60])
        self.assert_right(False, ask("b", tree, tree), rows)
        tree, rows = row_of_asks(names[:59])
        self.assert_right(True, ask("b", tree, tree), rows)

    def test_a_part_more_or_fewer_or_another_word(self):
        for wrong in (("end",), ("end", (), ()), ("ask", "a", end(".")), ("ask", "a", end("."), end("."), end(".")),
                      ("ask", end("."), end(".")), ("ask", "a"), ("ask",), (), ("End", ()), ("ask", ()), ("given", ()),
                      ("end", "a", end("."), end(".")), ("Ask", "a", end("."), end(".")), ("", ()), (None, ()),
                      (True, "a", end("."), end(".")), (("ask",), "a", end("."), end("."))):
            self.assert_right(False, wrong, ROWS)
            self.assert_right(False, ask("a", wrong, end(".")), ROWS)
            self.assert_right(False, ask("a", end("."), wrong), ROWS)

    def test_a_list_in_a_tuples_place(self):
        self.assert_right(False, ["end", ()], ROWS)
        self.assert_right(False, ("end", []), ROWS)
        self.assert_right(False, list(TREE), ROWS)
        self.assert_right(False, ("ask", "a", end("."), ["end", ()]), ROWS)
        self.assert_right(False, ("ask", "a", "b", ["b", True]), ROWS)
        self.assert_right(False, ask("a", ("end", (["a", False],)), end(".")), ROWS + clauses("-a"))
        self.assert_right(False, ask("a", ("end", [("a", False)]), end(".")), ROWS + clauses("-a"))

    def test_a_name_that_is_none(self):
        for wrong in ("", "A", "not", "a b", "a0b", "abcdefghi", "0", None, True, 0, (), ["a"], ("a",), ("a", True)):
            self.assert_right(False, ("ask", wrong, end("."), end(".")), ROWS)

    def test_a_number(self):
        self.assert_right(False, ask("a", ("end", (("a", 0),)), ("end", (("a", 1),))), clauses("a, -a"))
        self.assert_right(False, 0, ROWS)
        self.assert_right(False, ("end", 0), ROWS)
        self.assert_right(False, ask("a", end("."), (0, 1)), ROWS)
        self.assert_right(False, ("ask", "a", 0, 1), ROWS)

    def test_odd_things(self):
        for thing in ODD_THINGS + (within(150), (within(149), within(149)), ("end",) * 19999, [()] * 19999, ROWS,
                                   ("end", within(140)), ("ask", "a", within(140), within(140)),
                                   ("ask", within(140), (), ()), ("end", (("a", True), ("a", False)))):
            self.assert_right(False, thing, ROWS)
            self.assert_right(False, ("ask", "a", end("."), thing), ROWS)
            self.assert_right(False, ("end", (thing,)), ROWS)


class Asks(unittest.TestCase):

    def test_counted(self):
        self.assertEqual(0, asks(end("a b")))
        self.assertEqual(3, asks(TREE))
        self.assertEqual(7, asks(ask("d", TREE, TREE)))
        self.assertEqual(1, asks(ask("a", end("."), end("."))))

    def test_of_told_ones(self):
        for told in some_clashes()[:40]:
            tree = tree_of(told)
            self.assertEqual(str(tree).count("'ask'"), asks(tree))


class ChainOfTree(unittest.TestCase):

    def assert_chain(self, tree, rows):
        self.assertIs(is_right(tree, rows), True)
        told = chain_of_tree(tree)
        self.assertIs(Chain, type(told))
        self.assertTrue(comes_to(told, rows, ()))
        self.assertLessEqual(meetings_in(told), asks(tree))
        used = {number for step in told.steps() if step[0] == "met" for number in step[1:3]}
        self.assertEqual(set(range(len(told) - 1)), used)
        self.assertEqual(told, chain_of_tree(tree))
        return told

    def test_each_ask_a_meeting(self):
        told = self.assert_chain(TREE, ROWS)
        self.assertEqual(3, meetings_in(told))
        self.assertEqual(sorted(ROWS[:4]), told.givens())

    def test_an_end_alone(self):
        self.assertEqual([("given", ())], self.assert_chain(end("."), ROWS).steps())

    def test_an_ask_that_is_not_needed(self):
        told = self.assert_chain(ask("d", TREE, TREE), ROWS)
        self.assertEqual(3, meetings_in(told))
        for tree in (ask("d", TREE, ask("e", end("."), TREE)), ask("a", ask("b", end("."), TREE_OF_C), end("."))):
            self.assert_chain(tree, ROWS)
        self.assertEqual([("given", ())], self.assert_chain(ask("a", end("."), end(".")), ROWS).steps())
        self.assertEqual([("given", ())], self.assert_chain(ask("a", "-a", end(".")), clauses("-a, .")).steps())

    def test_what_ends_do_not_need_is_not_given(self):
        rows = clauses("-a, b, a, -b")
        told = self.assert_chain(ask("b", ask("a", "-a", "a"), "b"), rows)
        self.assertEqual(clauses("-a, a"), told.givens())
        told = self.assert_chain(ask("b", "-b", ask("a", "-a", "a")), rows)
        self.assertEqual(clauses("-a, a"), told.givens())

    def test_long_ways(self):
        tree, rows = row_of_asks([f"a{number}" for number in range(60)])
        self.assertEqual(60, meetings_in(self.assert_chain(tree, rows)))

    def test_trees_of_chains(self):
        for told in some_clashes():
            tree = tree_of(told)
            self.assert_chain(tree, told.givens())
            self.assert_chain(ask("zz", tree, ask("zzz", tree, tree)), told.givens())


TREE_OF_C = ask("c", "-a -c", "-a c")


class TreeOf(unittest.TestCase):

    def assert_tree(self, told, **most):
        kept = told.steps()
        tree = tree_of(told, **most)
        self.assertIs(is_right(tree, told.givens()), True)
        self.assertLessEqual(asks(tree), meetings_unfolded(told))
        self.assertEqual(tree, tree_of(told, **most))
        self.assertEqual(kept, told.steps())
        self.assertLessEqual(asks(tree_of(chain_of_tree(tree))), asks(tree))
        return tree

    def test_a_meeting_an_ask(self):
        told = chain("a b, a -b, = 0 1 b, -a c, -a -c, = 3 4 c, = 2 5 a")
        self.assertEqual(TREE, self.assert_tree(told))

    def test_one_given_step(self):
        self.assertEqual(end("."), self.assert_tree(chain(".")))
        self.assertEqual(end("."), self.assert_tree(chain("a, -a, = 0 1 a, .")))
        self.assertEqual(end("."), tree_of(chain("."), most=0))

    def test_a_step_used_twice(self):
        told = chain("a b, -a b, = 0 1 a, -b c, = 2 3 b, -b -c, = 2 5 b, = 4 6 c")
        self.assertEqual(4, meetings_in(told))
        tree = self.assert_tree(told)
        self.assertEqual(5, asks(tree))
        self.assertEqual(ask("c", ask("b", "-b -c", ask("a", "-a b", "a b")),
                             ask("b", "-b c", ask("a", "-a b", "a b"))), tree)

    def test_a_name_met_again_on_the_way_is_not_asked_again(self):
        told = chain("a b, -a c, = 0 1 a, -b a, = 2 3 b, -c a, = 4 5 c, -a, = 6 7 a")
        tree = self.assert_tree(told)
        self.assertEqual(ask("a", "-a", ask("c", "-c a", ask("b", "-b a", "a b"))), tree)

    def test_chains_of_several_kinds(self):
        for told in some_clashes():
            self.assert_tree(told)

    def test_of_what_search_tells(self):
        for things in range(2, 7):
            self.assert_tree(search(pigeons(things, things - 1))[1])

    def test_sixty_names(self):
        names = [f"a{number}" for number in range(60)]
        rows = [clause("a0")] + [clause(f"-{name} {behind}") for name, behind in zip(names, names[1:])]
        tree = self.assert_tree(search(rows + [clause("-a59")])[1])
        self.assertEqual(60, asks(tree))

    def test_no_chain_of_the_empty_clause(self):
        for text in ("a", "a b, -a b, = 0 1 a", "., a", "a, -a, = 0 1 a, b"):
            for most in (0, 2000):
                with self.assertRaises(NoChain) as caught:
                    tree_of(chain(text), most=most)
                self.assertIsInstance(caught.exception, ValueError)

    def test_too_great(self):
        told = search(pigeons(5, 4))[1]
        tree = self.assert_tree(told)
        for most in (0, 1, 10, asks(tree) - 1):
            with self.assertRaises(TooGreat) as caught:
                tree_of(told, most=most)
            self.assertEqual(most, caught.exception.most)
            self.assertIsInstance(caught.exception, OverflowError)
        for most in (asks(tree), asks(tree) + 1, 2000, 10 ** 9):
            self.assertEqual(tree, tree_of(told, most=most))

    def test_two_thousand_where_it_is_left_out(self):
        told = search(pigeons(7, 6))[1]
        with self.assertRaises(TooGreat) as caught:
            tree_of(told)
        self.assertEqual(2000, caught.exception.most)
        self.assertGreater(asks(self.assert_tree_by(told, 10 ** 5)), 2000)

    def assert_tree_by(self, told, most):
        tree = tree_of(told, most=most)
        self.assertIs(is_right(tree, told.givens()), True)
        return tree

    def test_most_is_by_name_alone(self):
        self.assertRaises(TypeError, tree_of, chain("."), 5)


if __name__ == "__main__":
    unittest.main()
