"""Stairs rid of steps that they don't need, as they are split: a part of promise 30."""

import unittest

from middlesay.pruning import pruned
from middlesay.sequents import bound_of, sequent
from middlesay.stairs import Book
from tests.helping import A, B, C, NO, YES
from tests.stairing import is_plain_stair, some_stairs, steps_of
from tests.test_sequents import RULES

OR = ("or", B, C)


class Pruned(unittest.TestCase):

    def test_steps_in_vain(self):
        plain = ("shut", A)
        self.assertEqual(plain, pruned(Book(), plain))
        for stair in (("left", OR, (plain, plain)), ("left", ("and", B, C), (plain,)), ("right", ("not", B), (plain,)),
                      ("left", OR, (("shut", B), plain)), ("left", OR, (plain, ("right", ("not", B), (plain,)))),
                      ("right", ("same", B, C), (("left", OR, (plain, ("shut", C))), ("shut", B)))):
            self.assertEqual(plain, pruned(Book(), stair))
        for word in (YES, NO):
            self.assertEqual(("shut", word), pruned(Book(), ("left", OR, (("shut", word), ("shut", word)))))

    def test_steps_that_are_needed(self):
        for _, _, stair in RULES:
            self.assertEqual(stair, pruned(Book(), stair))
        told = ("left", ("or", YES, NO), (("shut", A), ("shut", NO)))
        self.assertEqual(("shut", A), pruned(Book(), told))
        told = ("left", ("or", NO, NO), (("shut", NO), ("shut", NO)))
        self.assertEqual(told, pruned(Book(), told))
        told = ("right", ("and", YES, YES), (("shut", YES), ("shut", YES)))
        self.assertEqual(told, pruned(Book(), told))

    def test_of_stairs_of_chance(self):
        for left, right, stair in some_stairs(500, share=0):
            told = pruned(Book(), stair)
            self.assertTrue(is_plain_stair(left, right, told))
            self.assertLessEqual(len(steps_of(told)), len(steps_of(stair)))
            self.assertLessEqual(bound_of(told), bound_of(stair))
            self.assertEqual(told, pruned(Book(), told))
            plain = sequent(left, right)[1]
            self.assertTrue(is_plain_stair(left, right, pruned(Book(), plain)))


if __name__ == "__main__":
    unittest.main()
