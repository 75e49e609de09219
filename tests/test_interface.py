"""Names and arguments of the interface."""

import inspect
import unittest

from middlesay import chains, clausing, deciding, errors, literals, sayings, sayingtexts, search, steptexts, tables
from middlesay import chaintexts, crossing, defining, desk, forgetting, middles, papers, parts, reaching, sequents
from middlesay import splitting, traces, trees, turning, unfolding

FUNCTIONS = (
    (sayings, "is_saying", "(thing)"), (sayings, "names_of", "(saying)"), (sayings, "holds", "(saying, row)"),
    (tables, "table", "(saying, names)"), (tables, "same", "(saying, other)"),
    (sayingtexts, "show_saying", "(saying)"), (sayingtexts, "read_saying", "(text)"),
    (literals, "is_name", "(thing)"), (literals, "is_clause", "(thing)"), (literals, "is_true", "(clause, row)"),
    (literals, "is_part", "(clause, other)"), (clausing, "clauses_of", "(saying, mark)"),
    (clausing, "spread", "(saying, *, most=500)"), (chains, "comes_to", "(chain, clauses, clause)"),
    (steptexts, "show_clause", "(clause)"),
    (turning, "trimmed", "(chain)"), (turning, "shared", "(chain)"), (turning, "lightened", "(chain)"),
    (turning, "joined", "(chain, other, name)"), (turning, "put_in", "(chain, other)"),
    (search, "search", "(clauses, *, order=(), most=5000)"),
    (deciding, "decided", "(ones, others)"), (deciding, "given_by", "(sayings, saying)"),
    (trees, "is_right", "(tree, clauses)"), (trees, "asks", "(tree)"), (trees, "chain_of_tree", "(tree)"),
    (trees, "tree_of", "(chain, *, most=2000)"),
    (unfolding, "is_tree_chain", "(chain)"), (unfolding, "unfolded", "(chain, *, most=4000)"),
    (unfolding, "regular", "(chain)"), (traces, "first_wrong", "(trace, clauses)"),
    (traces, "chain_of_trace", "(trace, clauses)"), (traces, "needed", "(trace, clauses)"),
    (traces, "trace_of", "(chain)"), (papers, "papers", "(middle)"), (papers, "stronger", "(middle, other)"),
    (forgetting, "forgotten", "(clauses, names, *, most=400)"),
    (forgetting, "strongest", "(one, other, *, most=400)"), (forgetting, "weakest", "(one, other, *, most=400)"),
    (defining, "defined", "(sayings, name, *, by=None)"), (sequents, "is_stair", "(left, right, thing)"),
    (sequents, "steps_in", "(stair)"), (sequents, "bound_of", "(stair)"),
    (sequents, "sequent", "(left, right, *, most=4000)"), (sequents, "uncut", "(left, right, stair, *, most=4000)"),
    (splitting, "split", "(first, second, stair)"), (crossing, "sayings_of", "(clauses)"),
    (crossing, "from_tree", "(tree, clauses)"), (crossing, "to_tree", "(clauses, stair)"),
    (chaintexts, "read_clause", "(text)"), (chaintexts, "read_chain", "(text)"),
    (chaintexts, "show_trace", "(trace)"), (chaintexts, "read_trace", "(text)"),
    (chaintexts, "show_tree", "(tree)"), (chaintexts, "read_tree", "(text)"),
    (reaching, "reached", "(names, begin, step, bad, *, order=())"),
)

CLASSES = (
    (errors, "NoText", {"__init__": "(self, row)"}), (errors, "NoChain", {"__init__": "(self, why)"}),
    (errors, "NoTree", {"__init__": "(self, why)"}), (errors, "NoWay", {"__init__": "(self, why)"}),
    (errors, "NoRow", {"__init__": "(self, row)"}), (errors, "NoName", {"__init__": "(self, name)"}),
    (errors, "NoLabel", {"__init__": "(self, label)"}), (errors, "NoStep", {"__init__": "(self, step)"}),
    (errors, "NoMark", {"__init__": "(self, spot)"}), (errors, "NoOrder", {"__init__": "(self, spot)"}),
    (errors, "NoClash", {"__init__": "(self, row)"}), (errors, "TooGreat", {"__init__": "(self, most)"}),
    (errors, "TooMany", {"__init__": "(self, most)"}),
    (chains, "Chain", {
        "__init__": "(self, steps)", "steps": "(self)", "clauses": "(self)", "last": "(self)", "givens": "(self)",
        "__len__": "(self)", "__eq__": "(self, other)", "__str__": "(self)",
    }),
    (middles, "Middle", {
        "__init__": "(self, chain, one, other, *, way='both', marks=None)", "knots": "(self)", "names": "(self)",
        "table": "(self, names)", "marks_of": "(self, step)", "saying": "(self, *, most=400)",
        "clauses": "(self, letter='m')", "__len__": "(self)",
    }),
    (parts, "Parts", {
        "__init__": "(self, parts, up, chain, *, way='other')", "middle": "(self, part)", "clauses": "(self, part)",
        "paper": "(self, part)",
    }),
    (desk, "Desk", {
        "__init__": "(self)", "put": "(self, label, side, saying)", "drop": "(self, label)", "move": "(self, label)",
        "undo": "(self)", "several": "(self, rows)", "labels": "(self)", "clash": "(self, *, most=5000)",
        "truth": "(self, *, most=5000)", "middle": "(self, *, way='both', most=5000)", "deeds": "(self)",
    }),
)


class Interface(unittest.TestCase):

    def test_functions(self):
        for module, name, arguments in FUNCTIONS:
            with self.subTest(name):
                function = getattr(module, name)
                self.assertTrue(inspect.isfunction(function))
                self.assertEqual(module.__name__, function.__module__)
                self.assertEqual(arguments, str(inspect.signature(function)))

    def test_classes_and_their_own_methods(self):
        for module, name, methods in CLASSES:
            made = getattr(module, name)
            self.assertEqual(module.__name__, made.__module__)
            for method, arguments in methods.items():
                with self.subTest(f"{name}.{method}"):
                    self.assertIn(method, vars(made))
                    self.assertEqual(arguments, str(inspect.signature(vars(made)[method])))


if __name__ == "__main__":
    unittest.main()
