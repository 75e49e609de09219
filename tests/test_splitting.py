"""Stairs split: promise 30, as far as it speaks of middles of stairs."""

import unittest
from random import Random

from middlesay.errors import TooGreat
from middlesay.sayings import is_saying
from middlesay.sequents import bound_of, is_stair, sequent, steps_in, uncut
from middlesay.splitting import split
from tests.helping import A, B, C, D, NO, YES, plain_names
from tests.stairing import is_plain_stair, names_of_lists, some_stairs, steps_of
from tests.test_sequents import RULES, SHUT, parity


def ways_to_part(left, right):
    """All ways to put each saying on the first part, on the second or on both."""
    told = [((), (), (), ())]
    for place, sayings in ((0, left), (1, right)):
        for saying in sayings:
            more = []
            for lists in told:
                for puts in ((place,), (place + 2,), (place, place + 2)):
                    more.append(tuple([rows + ((saying,) if number in puts else ())
                                       for number, rows in enumerate(lists)]))
            told = more
    for one, two, three, four in told:
        yield (list(one), list(two)), (list(three), list(four))


class Told(unittest.TestCase):

    def assert_split(self, first, second, stair):
        kept = [list(rows) for rows in first + second]
        told = split(first, second, stair)
        self.assertEqual(kept, [list(rows) for rows in first + second])
        self.assertEqual(told, split(first, second, stair))
        self.assertIs(tuple, type(told))
        saying, one, other = told
        self.assertIs(is_saying(saying), True)
        left, right = [[held for held in mine if held not in his] for mine, his in zip(second, first)]
        shared = set(names_of_lists(*first)) & set(names_of_lists(left, right))
        self.assertLessEqual(plain_names(saying), shared)
        most = 2 * bound_of(stair)
        for lists, told_stair in (((first[0], [*first[1], saying]), one), (([saying, *left], right), other),
                                  (([saying, *second[0]], second[1]), other)):
            self.assertTrue(is_plain_stair(*lists, told_stair))
            self.assertIs(is_stair(*lists, told_stair), True)
            self.assertNotIn("cut", steps_of(told_stair))
            self.assertLessEqual(steps_in(told_stair), most)
        return told


class Split(Told):

    def test_shut_on_each_part(self):
        stair = ("shut", A)
        for first, second, saying in ((([A], [A]), ([], []), NO), (([], []), ([A], [A]), YES),
                                      (([A], []), ([], [A]), A), (([], [A]), ([A], []), ("not", A))):
            self.assertEqual(saying, self.assert_split(first, second, stair)[0])
        for word, place in ((YES, 1), (NO, 0)):
            lists = ([], [word]) if place else ([word], [])
            self.assertEqual(NO, self.assert_split(lists, ([], []), ("shut", word))[0])
            self.assertEqual(YES, self.assert_split(([], []), lists, ("shut", word))[0])

    def test_each_rule_on_each_list_and_each_part(self):
        for left, right, stair in RULES + tuple([(left, right, ("shut", saying)) for left, right, saying in SHUT]):
            for first, second in ways_to_part(left, right):
                self.assert_split(first, second, stair)

    def test_a_saying_on_both_parts_counts_to_the_first(self):
        saying = ("and", A, B)
        told = self.assert_split(([saying], []), ([saying], [A]), ("left", saying, (("shut", A),)))
        self.assertEqual(A, told[0])
        told = self.assert_split(([], [("or", A, B)]), ([B], [("or", A, B)]), ("right", ("or", A, B), (("shut", B),)))
        self.assertEqual(("not", B), told[0])
        self.assertEqual(NO, self.assert_split(([A], [A]), ([A], [A]), ("shut", A))[0])

    def test_parts_that_share_no_name(self):
        stair = sequent([("or", A, B), ("not", A)], [B])[1]
        for first, second in ((([("or", A, B), ("not", A)], [B]), ([C], [D])),
                              (([C], [D]), ([("or", A, B), ("not", A)], [B]))):
            saying = self.assert_split(first, second, stair)[0]
            self.assertEqual(set(), plain_names(saying))

    def test_bare_parts_and_all_on_one(self):
        for left, right, stair in RULES:
            self.assert_split((left, right), ([], []), stair)
            self.assert_split(([], []), (left, right), stair)
            self.assert_split((left, []), ([], right), stair)
            self.assert_split(([], right), (left, []), stair)
            self.assert_split((left, right), (left, right), stair)

    def test_stairs_of_chance(self):
        for number, (left, right, stair) in enumerate(some_stairs(700, share=0)):
            chance = Random(number)
            parts = [([], []), ([], [])]
            for place, sayings in ((0, left), (1, right)):
                for saying in sayings:
                    for part in chance.choice(([0], [1], [0], [1], [0, 1])):
                        parts[part][place].append(saying)
            self.assert_split(*parts, stair)

    def test_stairs_that_are_told(self):
        for number, (left, right, stair) in enumerate(some_stairs(300, seed=400)):
            plain = sequent(left, right)[1]
            free = uncut(left, right, stair)
            half, other_half = len(left) // 2, len(right) // 2
            first, second = (left[:half], right[other_half:]), (left[half:], right[:other_half])
            told = self.assert_split(first, second, plain)
            self.assert_split(first, second, free)
            self.assert_split((first[0], [*first[1], told[0]]), ([], []), told[1])
            self.assert_split(second, ([told[0]], []), told[2])

    def test_sayings_alike_to_a_middle(self):
        # The middle stands on the lists already, and is taken apart there.
        stairs = (("shut", C), ("shut", A))
        for saying in (("or", C, A), ("and", C, A), ("same", C, A), ("if", C, A)):
            told = sequent([saying], [("and", saying, saying)])[1]
            for first, second in ways_to_part([saying], [("and", saying, saying)]):
                self.assert_split(first, second, told)
        left, right = [("or", C, A), ("or", A, C)], [C, A, ("or", C, A)]
        for first, second in ways_to_part(left, right):
            self.assert_split(first, second, ("left", left[0], stairs))
            self.assert_split(first, second, ("left", left[1], stairs[::-1]))

    def test_great_stairs_have_middles_that_arent(self):
        for count in range(2, 9):
            left, right = parity("abcdefgh"[:count], True), parity("abcdefgh"[:count], False)
            stair = sequent([left], [right])[1]
            self.assert_split(([left], []), ([], [right]), stair)
            self.assert_split(([], [right]), ([left], []), stair)

    def test_too_great(self):
        # Each pair of many names, of which no saying of a few parts tells.
        names = [("name", f"x{letter}") for letter in "abcdefghijklmnopqrstuvw"]
        sayings = [("and", one, two) for one in names for two in names if one < two]
        whole = sayings[0]
        for saying in sayings[1:]:
            whole = ("or", whole, saying)
        stair = self.stair_of_ors(whole)
        with self.assertRaises(TooGreat) as caught:
            split(([whole], []), ([], sayings), stair)
        self.assertEqual(400, caught.exception.most)

    def stair_of_ors(self, saying):
        if saying[0] == "and":
            return ("left", saying, (("right", saying, (("shut", saying[1]), ("shut", saying[2]))),))
        return ("left", saying, (self.stair_of_ors(saying[1]), self.stair_of_ors(saying[2])))


if __name__ == "__main__":
    unittest.main()
