"""Chains and the judge: promises 10 and 11, and a Chain's text, of promise 31."""

import unittest

from middlesay.chains import Chain, comes_to
from middlesay.errors import NoStep
from tests.helping import ODD_THINGS, within

A = (("a", True),)
NOT_A = (("a", False),)
B = (("b", True),)
A_OR_B = (("a", True), ("b", True))
A_OR_NOT_B = (("a", True), ("b", False))
GIVES_B = (("a", False), ("b", True))
GIVES_NO_B = (("a", False), ("b", False))

# a or b, a gives b, so b; a gives not b, and with a or not b there is no way left.
LONG = [
    ("given", A_OR_B), ("given", GIVES_B), ("met", 0, 1, "a"), ("given", A_OR_NOT_B), ("given", GIVES_NO_B),
    ("met", 3, 4, "a"), ("met", 2, 5, "b"),
]


class Made(unittest.TestCase):

    def test_given_and_met_steps(self):
        for steps in (LONG, tuple(LONG)):
            chain = Chain(steps)
            self.assertEqual(LONG, chain.steps())
            self.assertEqual([A_OR_B, GIVES_B, B, A_OR_NOT_B, GIVES_NO_B, (("b", False),), ()], chain.clauses())
            self.assertEqual((), chain.last())
            self.assertEqual(7, len(chain))

    def test_one_given_step(self):
        for clause in ((), A, A_OR_B):
            chain = Chain([("given", clause)])
            self.assertEqual([("given", clause)], chain.steps())
            self.assertEqual([clause], chain.clauses())
            self.assertEqual([clause], chain.givens())
            self.assertEqual(clause, chain.last())
            self.assertEqual(1, len(chain))

    def test_givens_are_unlike_and_sorted(self):
        chain = Chain([("given", B), ("given", A), ("given", ()), ("given", NOT_A), ("given", A), ("given", B),
                       ("met", 1, 3, "a")])
        self.assertEqual([(), NOT_A, A, B], chain.givens())
        self.assertEqual(sorted([A_OR_B, GIVES_B, A_OR_NOT_B, GIVES_NO_B]), Chain(LONG).givens())

    def test_all_other_literals_of_both_sorted(self):
        first = (("a", True), ("c", False), ("d", True))
        second = (("a", False), ("b", True), ("d", True), ("e1", False))
        chain = Chain([("given", second), ("given", first), ("met", 1, 0, "a")])
        self.assertEqual((("b", True), ("c", False), ("d", True), ("e1", False)), chain.last())

    def test_a_step_taken_often(self):
        steps = [("given", A), ("given", NOT_A), ("met", 0, 1, "a"), ("met", 0, 1, "a")]
        self.assertEqual([A, NOT_A, (), ()], Chain(steps).clauses())

    def test_many_steps(self):
        names = [f"a{1000 + number}" for number in range(1500)]
        steps = [("given", ((names[0], True),))]
        for name, following in zip(names, names[1:]):
            steps.append(("given", ((name, False), (following, True))))
            steps.append(("met", len(steps) - 2, len(steps) - 1, name))
        self.assertEqual(((names[-1], True),), Chain(steps).last())

    def test_what_it_tells_is_new_each_time(self):
        chain = Chain(LONG)
        text = str(chain)
        for told in (chain.steps(), chain.clauses(), chain.givens()):
            self.assertIs(list, type(told))
            told.append(("given", ()))
            told.reverse()
            told.clear()
        self.assertEqual(LONG, chain.steps())
        self.assertEqual(7, len(chain.clauses()))
        self.assertEqual(4, len(chain.givens()))
        self.assertEqual(text, str(chain))

    def test_a_list_that_is_changed_afterwards_changes_nothing(self):
        steps = list(LONG)
        chain = Chain(steps)
        self.assertEqual(LONG, steps)
        steps.pop()
        steps[0] = ("given", ())
        self.assertEqual(LONG, chain.steps())
        self.assertEqual(7, len(chain))
        self.assertEqual((), chain.last())


class Refused(unittest.TestCase):

    def assert_no_step(self, number, steps):
        with self.assertRaises(NoStep) as caught:
            Chain(steps)
        self.assertEqual(number, caught.exception.step)
        self.assertIs(int, type(caught.exception.step))
        self.assertIsInstance(caught.exception, IndexError)

    def test_numbers_of_a_meeting(self):
        ahead = [("given", A_OR_B), ("given", GIVES_B)]
        for wrong in (2, 3, 99, 10 ** 59, -1, -2, True, False, None, "0", "", (), (0,), [0]):
            self.assert_no_step(2, ahead + [("met", wrong, 1, "a")])
            self.assert_no_step(2, ahead + [("met", 0, wrong, "a")])
            self.assert_no_step(2, ahead + [("met", wrong, 1, "a"), ("given", ()), ("met", 0, 1, "a")])
        self.assert_no_step(0, [("met", 0, 0, "a")])
        self.assert_no_step(2, ahead + [("met", 0, 3, "a"), ("given", GIVES_B)])

    def test_numbers_of_a_meeting_below_nought_that_would_do(self):
        self.assert_no_step(2, [("given", A), ("given", NOT_A), ("met", -2, -1, "a")])
        self.assert_no_step(2, [("given", NOT_A), ("given", A), ("met", True, False, "a")])
        self.assert_no_step(2, [("given", NOT_A), ("given", A), ("met", 1, False, "a")])

    def test_the_two_numbers_exchanged(self):
        self.assert_no_step(2, [("given", A), ("given", NOT_A), ("met", 1, 0, "a")])
        self.assert_no_step(2, [("given", A), ("given", NOT_A), ("met", 0, 0, "a")])
        self.assert_no_step(2, [("given", A), ("given", NOT_A), ("met", 1, 1, "a")])

    def test_a_name_that_is_not_in_both(self):
        ahead = [("given", A_OR_B), ("given", GIVES_B)]
        for name in ("b", "c", "", "A", "a0", "not", None, True, 0, 1, (), ("a",), ["a"], ("a", True), within(140)):
            self.assert_no_step(2, ahead + [("met", 0, 1, name)])

    def test_a_name_that_stands_both_ways_beside(self):
        self.assert_no_step(2, [("given", A_OR_B), ("given", GIVES_NO_B), ("met", 0, 1, "a")])
        self.assert_no_step(2, [("given", A_OR_B), ("given", GIVES_NO_B), ("met", 0, 1, "b")])

    def test_a_clause_that_is_none(self):
        for wrong in (None, True, 1, "a", ".", [], [("a", True)], ("a", True), (("a", 1),), (("b", True), ("a", True)),
                      (("a", True), ("a", False)), (("not", True),), (["a", True],), (("a",),), within(149)):
            self.assert_no_step(0, [("given", wrong)])
            self.assert_no_step(1, [("given", A), ("given", wrong)])

    def test_a_part_more_or_fewer(self):
        ahead = [("given", A), ("given", NOT_A)]
        for wrong in ((), ("given",), ("given", A, A), ("met",), ("met", 0), ("met", 0, 1), ("met", 0, 1, "a", "a"),
                      ("given", 0, 1, "a"), ("met", A), (A,), A, (0, 1, "a")):
            self.assert_no_step(2, ahead + [wrong])

    def test_kinds_that_are_none(self):
        ahead = [("given", A), ("given", NOT_A)]
        for kind in ("", "Given", "given ", "meet", None, True, 1, (), ["given"], ("given",)):
            self.assert_no_step(2, ahead + [(kind, A)])
            self.assert_no_step(2, ahead + [(kind, 0, 1, "a")])

    def test_a_list_in_a_steps_place(self):
        self.assert_no_step(0, [["given", A]])
        self.assert_no_step(2, [("given", A), ("given", NOT_A), ["met", 0, 1, "a"]])
        self.assert_no_step(1, [("given", A), "given", ("given", A)])

    def test_the_first_wrong_one_is_told(self):
        self.assert_no_step(1, [("given", A), ("given", None), ("met", 9, 9, "a"), None])
        self.assert_no_step(6, LONG[:6] + [("met", 5, 2, "b"), None])

    def test_none_at_all_and_what_is_no_list(self):
        for wrong in ([], (), None, True, False, 0, 7, "", "given", {}, {0: ("given", A)}, Chain(LONG), iter(LONG)):
            self.assert_no_step(0, wrong)

    def test_odd_things(self):
        for thing in ODD_THINGS + (within(150), (1,) * 19999, [within(100)] * 199):
            if thing != [("given", ())]:
                self.assert_no_step(0, thing)
            self.assert_no_step(0, [thing] if thing != ("given", ()) else [[thing]])

    def test_what_is_refused_stays_as_it_was(self):
        steps = [("given", A), ["given", [("a", True)]], None]
        self.assert_no_step(1, steps)
        self.assertEqual([("given", A), ["given", [("a", True)]], None], steps)


class Equal(unittest.TestCase):

    def test_where_the_steps_are(self):
        self.assertTrue(Chain(LONG) == Chain(tuple(LONG)))
        self.assertFalse(Chain(LONG) != Chain(list(LONG)))
        self.assertIs(Chain(LONG) == Chain(LONG), True)

    def test_where_they_are_not(self):
        for other in (LONG[:6], LONG[1:2], LONG + [("given", ())], [LONG[1], LONG[0], ("met", 1, 0, "a")] + LONG[3:]):
            self.assertIs(Chain(LONG) == Chain(other), False)
            self.assertIs(Chain(LONG) != Chain(other), True)
        first = [("given", A), ("given", NOT_A), ("given", A), ("met", 0, 1, "a")]
        self.assertFalse(Chain(first) == Chain(first[:3] + [("met", 2, 1, "a")]))

    def test_to_nothing_else(self):
        chain = Chain(LONG)
        for other in (LONG, tuple(LONG), str(chain), chain.clauses(), None, True, 7, (), []):
            self.assertIs(chain == other, False)
            self.assertIs(other == chain, False)
            self.assertIs(chain != other, True)


class Text(unittest.TestCase):

    def test_a_row_for_each_step(self):
        rows = ["given a b", "given -a b", "met 0 1 a", "given a -b", "given -a -b", "met 3 4 a", "met 2 5 b"]
        self.assertEqual("\n".join(rows), str(Chain(LONG)))

    def test_one_row(self):
        self.assertEqual("given .", str(Chain([("given", ())])))
        self.assertEqual("given -a b", str(Chain([("given", GIVES_B)])))

    def test_great_numbers_and_fresh_names(self):
        steps = [("given", (("m12", True),))] * 11 + [("given", (("m12", False),)), ("met", 10, 11, "m12")]
        self.assertEqual("given m12\n" * 11 + "given -m12\nmet 10 11 m12", str(Chain(steps)))


class ComesTo(unittest.TestCase):

    def setUp(self):
        self.clauses = [GIVES_NO_B, A_OR_NOT_B, A_OR_B, GIVES_B]

    def test_given_ones_all_among_the_list(self):
        self.assertIs(comes_to(Chain(LONG), self.clauses, ()), True)
        self.assertIs(comes_to(Chain(LONG), self.clauses + [A, A], ()), True)
        self.assertIs(comes_to(Chain(LONG[:3]), [A_OR_B, GIVES_B], B), True)

    def test_one_lacking(self):
        for lacking in self.clauses:
            clauses = [clause for clause in self.clauses if clause != lacking]
            self.assertIs(comes_to(Chain(LONG), clauses, ()), False)
        self.assertIs(comes_to(Chain(LONG), [], ()), False)
        self.assertIs(comes_to(Chain([("given", A)]), [A_OR_B], A), False)

    def test_one_that_is_not_needed_lacking(self):
        steps = [("given", A), ("given", B)]
        self.assertIs(comes_to(Chain(steps), [B], B), False)
        self.assertIs(comes_to(Chain(steps), [A, B], B), True)

    def test_the_last_one_a_part(self):
        for clause in ((), A, B, A_OR_B, GIVES_NO_B):
            self.assertIs(comes_to(Chain(LONG), self.clauses, clause), True)
        chain = Chain(LONG[:3])
        for clause, told in ((B, True), (A_OR_B, True), (GIVES_B, True), ((), False), (A, False),
                             ((("b", False),), False), (A_OR_NOT_B, False)):
            self.assertIs(comes_to(chain, self.clauses, clause), told, clause)

    def test_a_literal_too_many(self):
        chain = Chain([("given", A_OR_B)])
        self.assertIs(comes_to(chain, [A_OR_B], A_OR_B), True)
        self.assertIs(comes_to(chain, [A_OR_B], A), False)
        self.assertIs(comes_to(chain, [A_OR_B], (("a", True), ("b", True), ("c", False))), True)

    def test_the_list_stays(self):
        clauses = list(self.clauses)
        comes_to(Chain(LONG), clauses, ())
        comes_to(Chain(LONG), clauses, B)
        self.assertEqual(self.clauses, clauses)


if __name__ == "__main__":
    unittest.main()
