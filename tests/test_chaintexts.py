"""Texts of clauses, Chains, traces and search trees: promise 31."""

import unittest

from middlesay.chains import Chain
from middlesay.chaintexts import read_chain, read_clause, read_trace, read_tree, show_trace, show_tree
from middlesay.errors import NoText
from middlesay.search import search
from middlesay.steptexts import show_clause
from middlesay.traces import trace_of
from middlesay.trees import tree_of
from tests.chaining import chain, clause, pigeons, some_chains, some_clashes
from tests.test_crossing import ladder, row_of_sixty

PLAIN = "given a\ngiven -a b\nmet 0 1 a\ngiven -b\nmet 2 3 b"
TREE = "ask a\nend -a\nask b\nend -b\nend a b"
NO_TEXTS = (None, True, 0, 1, (), [], ["given a"], ("end .",), [("given", ())])
# What is the text of no clause.
NO_CLAUSES = (
    "", " ", "a ", " a", "a  b", "a b ", "b a", "a a", "a -a", "-a a", "-b -a", "-", "- a", "--a", "a-", "A", "+a",
    ".a", "a .", ". ", " .", "..", "a,b", "a0a", "0", "not", "and b", "a\tb", "abcdefghi", "a01234567890123", "(a)",
    "a\nb", "\n", "a\n", "\na", ".\n", "a -b c b", "b9 b10",
)


class Told(unittest.TestCase):

    def assert_no_text(self, row, read, text):
        with self.assertRaises(NoText) as caught:
            read(text)
        self.assertEqual(row, caught.exception.row, repr(text))
        self.assertIs(int, type(caught.exception.row))
        self.assertIsInstance(caught.exception, ValueError)


class OfClauses(Told):

    def test_read_and_written(self):
        for text in (".", "a", "-a", "a b", "-a b", "a -b c", "a0", "-a00 a1 b", "b10 b11", "abcdefgh0000"):
            self.assertEqual(clause(text), read_clause(text))
            self.assertEqual(text, show_clause(read_clause(text)))
        for told in some_chains():
            for row in told.clauses():
                self.assertEqual(row, read_clause(show_clause(row)))

    def test_no_text(self):
        for text in NO_CLAUSES + NO_TEXTS:
            self.assert_no_text(0, read_clause, text)


class OfChains(Told):

    def test_read_and_written(self):
        self.assertEqual(chain("a, -a b, = 0 1 a, -b, = 2 3 b"), read_chain(PLAIN))
        self.assertEqual(chain("."), read_chain("given ."))
        for told in some_chains():
            self.assertIs(Chain, type(read_chain(str(told))))
            self.assertEqual(told, read_chain(str(told)))
        great = search(pigeons(6, 5))[1]
        self.assertLess(300, len(great))
        self.assertEqual(great, read_chain(str(great)))
        self.assertEqual(Chain(great.steps()[:300]), read_chain(str(Chain(great.steps()[:300]))))

    def test_no_text_and_the_empty_one(self):
        for text in NO_TEXTS + ("", "\n", "\n\n", " ", "\ngiven a"):
            self.assert_no_text(0, read_chain, text)

    def test_each_thing_wrong_at_each_row(self):
        rows = PLAIN.split("\n")
        wrong = ["", " ", "given", "given ", "Given a", "given  a", " given a", "given a ", "gave a", "met", "met 0 1",
                 "met 0 1 c", "met 0 1 a b", "met 00 1 a", "met 0 01 a", "met +0 1 a", "met -0 1 a", "met 0 -1 a",
                 "met 0 9 a", "met 9 0 a", "met 0  1 a", "met 0 1 a ", " met 0 1 a", "met 0 1  a", "met 0 1 A",
                 "met a 1 0", "met 0 1", "met 0 1 ", "met . 1 a", "met 0 1 not", "met 0.0 1 a", "meet 0 1 a", "end a",
                 "ask a", "a", ".", "met 0 0 a", "met 1 0 a", "met 0 1 b", "met 3 4 b", "met 0 1 -a",
                 "met " + "9" * 20 + " 1 a", "met 0 " + "1" * 5000 + " a", "met 0 " + "0" * 5000 + "1 a"]
        wrong += [f"given {text}" for text in NO_CLAUSES if "\n" not in text]
        for number in range(len(rows) + 1):
            for row in wrong:
                told = rows[:number] + [row]
                self.assert_no_text(number, read_chain, "\n".join(told))
                self.assert_no_text(number, read_chain, "\n".join(told + rows[number:]))
                self.assert_no_text(number, read_chain, "\n".join(told + ["given"]))

    def test_a_line_feed_behind_the_last(self):
        self.assert_no_text(5, read_chain, PLAIN + "\n")
        self.assert_no_text(5, read_chain, PLAIN + "\n\n")
        self.assert_no_text(1, read_chain, "given .\n")

    def test_rows_up_to_one_are_a_chain(self):
        rows = PLAIN.split("\n")
        for number in range(1, 6):
            self.assertEqual(Chain(read_chain(PLAIN).steps()[:number]), read_chain("\n".join(rows[:number])))

    def test_a_meeting_with_a_name_both_ways(self):
        self.assert_no_text(2, read_chain, "given a b\ngiven -a -b\nmet 0 1 a")
        self.assert_no_text(2, read_chain, "given a b\ngiven -a -b\nmet 1 0 a\ngiven .")


class OfTraces(Told):

    def test_read_and_written(self):
        for text, trace in ((".", [()]), ("a\n-a b\n.", [clause("a"), clause("-a b"), ()]),
                            ("a\na", [clause("a"), clause("a")])):
            self.assertEqual(trace, read_trace(text))
            self.assertEqual(text, show_trace(trace))
        for told in some_chains():
            if trace_of(told):
                self.assertEqual(trace_of(told), read_trace(show_trace(trace_of(told))))

    def test_no_text_and_the_empty_one(self):
        for text in NO_TEXTS + ("", "\n", "\na"):
            self.assert_no_text(0, read_trace, text)

    def test_each_thing_wrong_at_each_row(self):
        rows = ["a", "-b c", ".", "a b"]
        for number in range(5):
            for row in NO_CLAUSES:
                if "\n" not in row:
                    self.assert_no_text(number, read_trace, "\n".join(rows[:number] + [row]))
                    self.assert_no_text(number, read_trace, "\n".join(rows[:number] + [row] + rows[number:] + [""]))
            self.assert_no_text(number, read_trace, "\n".join(rows[:number] + ["given a"]))

    def test_new_each_time(self):
        read_trace("a\n.").clear()
        self.assertEqual([clause("a"), ()], read_trace("a\n."))


class OfTrees(Told):

    def test_read_and_written(self):
        tree = ("ask", "a", ("end", clause("-a")), ("ask", "b", ("end", clause("-b")), ("end", clause("a b"))))
        self.assertEqual(tree, read_tree(TREE))
        self.assertEqual(TREE, show_tree(tree))
        self.assertEqual(("end", ()), read_tree("end ."))
        self.assertEqual("end .", show_tree(("end", ())))
        for told in some_clashes():
            tree = tree_of(told)
            self.assertEqual(tree, read_tree(show_tree(tree)))
        self.assertEqual("ask a\nask b\nend .\nend a\nend b",
                         show_tree(("ask", "a", ("ask", "b", ("end", ()), ("end", clause("a"))), ("end", clause("b")))))

    def test_sixty_asks_on_a_way(self):
        for _, tree in (ladder(), row_of_sixty()):
            self.assertEqual(tree, read_tree(show_tree(tree)))
            self.assertEqual(121, len(show_tree(tree).split("\n")))
        rows = [f"ask a{number}" for number in range(60)] + ["end ."] * 61
        self.assertEqual("\n".join(rows), show_tree(read_tree("\n".join(rows))))
        rows = [f"ask a{number}" for number in range(61)] + ["end ."] * 62
        self.assert_no_text(60, read_tree, "\n".join(rows))
        rows = [row for number in range(60) for row in (f"ask a{number}", "end .")] + ["ask b", "end .", "end ."]
        self.assert_no_text(120, read_tree, "\n".join(rows))

    def test_no_text_and_the_empty_one(self):
        for text in NO_TEXTS + ("", "\n", "\nend ."):
            self.assert_no_text(0, read_tree, text)

    def test_each_thing_wrong_at_each_row(self):
        rows = TREE.split("\n")
        wrong = ["", " ", "end", "end ", "ask", "ask ", "End a", "Ask a", "ask  a", "ask a ", " ask a", "ask -a",
                 "ask A", "ask a b", "ask .", "ask not", "ask a0a", "asked a", "ends a", " end a", "end  a", "given a",
                 "met 0 1 a", "a", ".", "ask a\tb", "ask 0"]
        wrong += [f"end {text}" for text in NO_CLAUSES if "\n" not in text]
        for number in range(len(rows)):
            for row in wrong:
                self.assert_no_text(number, read_tree, "\n".join(rows[:number] + [row]))
                self.assert_no_text(number, read_tree, "\n".join(rows[:number] + [row] + rows[number:]))

    def test_rows_lacking(self):
        rows = TREE.split("\n")
        for number in range(1, len(rows)):
            self.assert_no_text(number, read_tree, "\n".join(rows[:number]))
            self.assert_no_text(number, read_tree, "\n".join(rows[:number]) + "\n")
        self.assert_no_text(60, read_tree, "\n".join(["ask a"] * 60))

    def test_more_rows_than_are_due(self):
        for more in ("", "end .", "ask a", "\n", "nothing"):
            self.assert_no_text(5, read_tree, f"{TREE}\n{more}")
            self.assert_no_text(1, read_tree, f"end .\n{more}")


if __name__ == "__main__":
    unittest.main()
