"""Traces: promises 19 and 20."""

import unittest
from random import Random

from middlesay.chains import Chain, comes_to
from middlesay.search import search
from middlesay.traces import chain_of_trace, first_wrong, needed, trace_of
from middlesay.turning import trimmed
from tests.chaining import chain, clause, clauses, meetings_in, names_of_clauses, pigeons, some_clashes, some_clauses
from tests.helping import ODD_THINGS, within


def closes_plainly(row, rows):
    """Whether a clause closes by others, by going through all of them again and again."""
    true = {(name, not yes) for name, yes in row}
    changed = True
    while changed:
        changed = False
        for other in rows:
            left = [literal for literal in other if (literal[0], not literal[1]) not in true]
            if not left:
                return True
            if len(left) == 1 and left[0] not in true:
                true.add(left[0])
                changed = True
    return False


def first_plainly_wrong(trace, rows):
    """The same as first_wrong, of a list of clauses."""
    for number, row in enumerate(trace):
        if not closes_plainly(row, rows + trace[:number]):
            return number
    return None if trace and not trace[-1] else len(trace)


def some_traces():
    """Lists of clauses with right traces of them, some with clauses that aren't needed, or stand in it again."""
    for number, told in enumerate(some_clashes()):
        trace = trace_of(told)
        if not told.last() and trace:
            chance = Random(number)
            yield told.givens(), trace
            yield told.givens(), trace[:-1] + chance.sample(trace, min(3, len(trace))) + [()]
    for things in (3, 4, 5):
        rows = pigeons(things, things - 1)
        yield rows, trace_of(search(rows)[1])
    yield clauses("a, -a"), [()]
    yield [()], [()]
    yield [()], [clause("a b"), (), clause("c"), ()]
    yield clauses("a b, -a b, a -b, -a -b"), clauses("a, b, .")
    yield clauses("a b, -a b, a -b, -a -b"), clauses("b, a, b, c -d a, .")


class FirstWrong(unittest.TestCase):

    ROWS = clauses("a b, -a b, a -b, -a -b")

    def assert_wrong(self, number, trace, rows):
        kept = list(trace) if isinstance(trace, list) else trace
        told = first_wrong(trace, rows)
        self.assertEqual(number, told, trace)
        self.assertIs(type(number), type(told))
        self.assertEqual(kept, trace)

    def test_right_ones(self):
        self.assert_wrong(None, clauses("b, ."), self.ROWS)
        self.assert_wrong(None, clauses("a, ."), self.ROWS)
        self.assert_wrong(None, clauses("a b, a, a, -b, ., b, ."), self.ROWS)
        self.assert_wrong(None, [()], clauses("a, -a"))
        self.assert_wrong(None, [()], [()])
        for rows, trace in some_traces():
            self.assert_wrong(None, trace, rows)
            self.assertIsNone(first_plainly_wrong(trace, rows))

    def test_one_that_does_not_close(self):
        self.assert_wrong(0, [()], self.ROWS)
        self.assert_wrong(0, clauses("c, ."), self.ROWS)
        self.assert_wrong(1, clauses("b, c, ."), self.ROWS[:2])
        self.assert_wrong(0, clauses("a, ."), self.ROWS[1:2])
        self.assert_wrong(0, [()], [])

    def test_again_and_again(self):
        rows = [clause(f"-a{number} a{number + 1}") for number in range(60)]
        self.assert_wrong(1, [clause("-a0 a60")], rows)
        self.assert_wrong(0, [clause("-a0 a60")], rows[:30] + rows[31:])
        self.assert_wrong(None, [()], rows + clauses("a0, -a60"))
        # Each way of a name, and nothing to begin with: it doesn't close, though the clause follows.
        self.assert_wrong(0, clauses("c, ."), clauses("a b c, -a b c, a -b c, -a -b c"))
        self.assert_wrong(2, clauses("b c, c"), clauses("a b c, -a b c, a -b c, -a -b c"))

    def test_by_the_ones_ahead_alone(self):
        self.assert_wrong(0, clauses("., b"), self.ROWS)
        self.assert_wrong(0, clauses("c, c"), self.ROWS)
        self.assert_wrong(0, clauses("., ."), self.ROWS)
        self.assert_wrong(2, clauses("b, a, c d -b, ."), clauses("a b, -a b, a -b"))

    def test_of_a_list_whose_last_one_is_not_empty_its_count(self):
        self.assert_wrong(0, [], self.ROWS)
        self.assert_wrong(1, clauses("b"), self.ROWS)
        self.assert_wrong(3, clauses("b, ., a"), self.ROWS)
        self.assert_wrong(0, [], [()])

    def test_one_that_is_no_clause(self):
        for thing in ODD_THINGS + (within(140), ["a"], [("a", True)], ("a", True), (("a", 1),), (("a", True),) * 2,
                                   (("b", True), ("a", True)), (("not", True),), Chain([("given", ())])):
            if thing != ():
                self.assert_wrong(1, [clause("b"), thing, ()], self.ROWS)
                self.assert_wrong(0, [thing], self.ROWS)
                self.assert_wrong(2, [clause("b"), (), thing], self.ROWS)
        self.assert_wrong(0, [clause("c"), None], self.ROWS)

    def test_of_what_is_no_list(self):
        for thing in ODD_THINGS + ((), ((),), (clause("b"), ()), within(149), "b", {0: ()}, Chain([("given", ())])):
            if not isinstance(thing, list):
                self.assert_wrong(0, thing, self.ROWS)

    def test_lists_of_chance(self):
        chance = Random(19)
        told = []
        for _ in range(600):
            names = list("abcd")[:chance.randint(1, 4)]
            rows = some_clauses(chance, names, chance.randint(1, 12))
            trace = some_clauses(chance, names, chance.randint(1, 5)) + [()] * chance.randint(0, 1)
            told.append(first_plainly_wrong(trace, rows))
            self.assert_wrong(told[-1], trace, rows)
        self.assertGreater(min(told.count(None), told.count(0), told.count(1), told.count(2)), 10)


class ChainOfTrace(unittest.TestCase):

    def assert_chain(self, trace, rows):
        kept = list(trace), list(rows)
        told = chain_of_trace(trace, rows)
        self.assertIs(Chain, type(told))
        self.assertTrue(comes_to(told, rows, ()))
        self.assertLessEqual(meetings_in(told), len(trace) * len(names_of_clauses(rows + trace)))
        self.assertEqual(told, chain_of_trace(trace, rows))
        self.assertEqual(kept, (trace, rows))
        return told

    def test_several(self):
        for rows, trace in some_traces():
            self.assert_chain(trace, rows)

    def test_the_empty_clause_given(self):
        self.assertEqual([("given", ())], self.assert_chain([()], [()]).steps())

    def test_a_clause_with_more_than_is_needed(self):
        told = self.assert_chain(clauses("b c d -e, -e b, b, ."), clauses("a b, -a b, a -b, -a -b"))
        self.assertEqual(sorted(clauses("a b, -a b, a -b, -a -b")), told.givens())

    def test_long_ways(self):
        rows = [clause(f"-a{number} a{number + 1}") for number in range(60)] + clauses("a0, -a60")
        self.assertEqual(61, meetings_in(self.assert_chain([()], rows)))


class Needed(unittest.TestCase):

    def assert_needed(self, trace, rows):
        kept = list(trace), list(rows)
        told = needed(trace, rows)
        self.assertIs(list, type(told))
        self.assertEqual(sorted(set(told)), told)
        self.assertEqual(len(trace) - 1, told[-1])
        left = [trace[number] for number in told]
        self.assertIsNone(first_wrong(left, rows))
        for place in range(len(left) - 1):
            self.assertIsNotNone(first_wrong(left[:place] + left[place + 1:], rows), told)
        self.assertEqual(told, needed(trace, rows))
        self.assertEqual(kept, (trace, rows))
        return told

    def test_several(self):
        fewer = 0
        for rows, trace in some_traces():
            if len(trace) < 60:
                fewer += len(self.assert_needed(trace, rows)) < len(trace)
        self.assertGreater(fewer, 50)

    def test_one_alone(self):
        self.assertEqual([0], self.assert_needed([()], clauses("a, -a")))
        self.assertEqual([2], self.assert_needed([clause("a b"), (), ()], [()]))

    def test_alike_ones(self):
        rows = clauses("a b, -a b, a -b, -a -b")
        self.assertEqual(2, len(self.assert_needed(clauses("b, b, b, ."), rows)))
        self.assertEqual(2, len(self.assert_needed(clauses("., a b, a, a b, .")[1:], rows)))

    def test_what_another_one_needed_that_is_not_needed(self):
        rows = clauses("a b c, a b -c, a -b c, a -b -c, d e, d -e, -d e, -d -e")
        self.assertEqual([2, 4], self.assert_needed(clauses("a b, a, d, f -a, ."), rows))

    def test_of_a_great_one(self):
        rows = pigeons(6, 5)
        trace = trace_of(search(rows)[1])
        told = needed(trace, rows)
        self.assertIsNone(first_wrong([trace[number] for number in told], rows))
        self.assertLess(len(told), len(trace))


class TraceOf(unittest.TestCase):

    def test_the_clauses_of_meetings_in_order(self):
        told = chain("c, a b, -a b, = 1 2 a, a -b, -a -b, = 4 5 a, = 3 6 b")
        self.assertEqual(clauses("b, -b, ."), trace_of(told))
        self.assertEqual([], trace_of(chain("a, b")))
        self.assertIs(list, type(trace_of(told)))

    def test_a_right_trace_of_its_given_ones(self):
        for told in some_clashes():
            if told.steps()[-1][0] == "met":
                for turned in (told, trimmed(told)):
                    self.assertIsNone(first_wrong(trace_of(turned), turned.givens()))

    def test_new_each_time(self):
        told = chain("a, -a, = 0 1 a")
        trace_of(told).clear()
        self.assertEqual([()], trace_of(told))

    def test_there_and_back(self):
        rows = pigeons(5, 4)
        trace = trace_of(search(rows)[1])
        again = trace_of(chain_of_trace(trace, rows))
        self.assertIsNone(first_wrong(again, rows))


if __name__ == "__main__":
    unittest.main()
