"""Sequents and their stairs: promise 29, and 3 as far as it speaks of sequents."""

import unittest
from random import Random

from middlesay.errors import TooGreat
from middlesay.sequents import bound_of, is_stair, sequent, steps_in, uncut
from tests.helping import A, B, C, D, NO, ODD_THINGS, PAIRS, YES, evenly, nots, some_sayings, within
from tests.stairing import (
    branches, follows, is_open, is_plain_stair, names_of_lists, plain_bound, some_sequents, some_stairs, steps_of,
)

AND, OR, IF, SAME, NOT = ("and", A, B), ("or", A, B), ("if", A, B), ("same", A, B), ("not", A)
SHUT_A, SHUT_B = ("shut", A), ("shut", B)

# For each rule on each list: left, right, a stair whose first step is that one.
RULES = (
    ([NOT, A], [], ("left", NOT, (SHUT_A,))),
    ([], [NOT, A], ("right", NOT, (SHUT_A,))),
    ([AND], [B], ("left", AND, (SHUT_B,))),
    ([A, B], [AND], ("right", AND, (SHUT_A, SHUT_B))),
    ([OR], [A, B], ("left", OR, (SHUT_A, SHUT_B))),
    ([B], [OR], ("right", OR, (SHUT_B,))),
    ([IF, A], [B], ("left", IF, (SHUT_A, SHUT_B))),
    ([B], [IF], ("right", IF, (SHUT_B,))),
    ([SAME, A], [B], ("left", SAME, (SHUT_B, SHUT_A))),
    ([SAME, B], [A], ("left", SAME, (SHUT_A, SHUT_B))),
    ([A, B], [SAME], ("right", SAME, (SHUT_B, SHUT_A))),
    ([], [SAME, A, B], ("right", SAME, (SHUT_A, SHUT_B))),
)
SHUT = (
    ([A], [A], A), ([AND], [AND], AND), ([], [YES], YES), ([NO], [], NO), ([YES], [YES], YES), ([NO], [NO], NO),
)


def parity(names, leftward):
    """The saying that an even number of names is false, put together from either end."""
    saying = ("name", names[0])
    for name in names[1:]:
        saying = ("same", saying, ("name", name)) if leftward else ("same", ("name", name), saying)
    return saying


class Told(unittest.TestCase):

    def assert_stair(self, left, right, thing):
        self.assertIs(is_stair(left, right, thing), True, (left, right, thing))

    def assert_none(self, left, right, thing):
        self.assertIs(is_stair(left, right, thing), False, (left, right, thing))

    def assert_too_great(self, most, told):
        with self.assertRaises(TooGreat) as caught:
            told()
        self.assertEqual(most, caught.exception.most)


class IsStair(Told):

    def test_shut(self):
        for left, right, saying in SHUT:
            self.assert_stair(left, right, ("shut", saying))
        for left, right, saying in (([A], [B], A), ([A], [B], B), ([A], [], A), ([], [A], A), ([YES], [], YES),
                                    ([], [NO], NO), ([YES], [NO], YES), ([YES], [NO], NO), ([A], [A], YES),
                                    ([A], [A], B), ([AND], [AND], A), ([A, B], [AND], AND), ([], [], YES)):
            self.assert_none(left, right, ("shut", saying))

    def test_each_rule_on_each_list(self):
        for left, right, stair in RULES:
            self.assert_stair(left, right, stair)

    def test_on_the_other_list_it_is_none(self):
        for left, right, stair in RULES:
            self.assert_none(right, left, stair)
            self.assert_none(left, right, ({"left": "right", "right": "left"}[stair[0]], *stair[1:]))

    def test_cut(self):
        for left, right in (([A], [A]), ([OR], [B, A])):
            for saying in (A, B, C, AND, YES, NO, nots(24), evenly("and", 200)):
                plain = sequent(left, right)[1]
                self.assert_stair(left, right, ("cut", saying, (plain, plain)))
        self.assert_stair([A], [A], ("cut", B, (SHUT_A, SHUT_A)))
        self.assert_stair([A, IF], [B], ("cut", A, (SHUT_A, ("left", IF, (SHUT_A, SHUT_B)))))
        self.assert_stair([], [YES], ("cut", NO, (("shut", YES), ("shut", NO))))
        self.assert_stair([A], [B, A], ("cut", YES, (("shut", YES), SHUT_A)))
        self.assert_none([A], [], ("cut", A, (SHUT_A, SHUT_A)))
        self.assert_none([], [A], ("cut", A, (SHUT_A, SHUT_A)))
        self.assert_none([C], [D], ("cut", A, (("shut", C), ("shut", D))))
        for thing in ("a", ["name", "a"], ("name", "and"), ("name", "a", "b"), nots(25), evenly("and", 201), None, ()):
            self.assert_none([A], [A], ("cut", thing, (SHUT_A, SHUT_A)))

    def test_two_stairs_exchanged(self):
        for left, right, stair in (RULES[3], RULES[4], RULES[6], RULES[8], RULES[9], RULES[10], RULES[11]):
            self.assert_none(left, right, (stair[0], stair[1], stair[2][::-1]))
        cut = ("cut", B, (("shut", B), ("left", IF, (SHUT_A, SHUT_B))))
        self.assert_stair([B, IF, A], [B], cut)
        self.assert_none([IF, A, C], [C], ("cut", B, (("shut", C), ("shut", B))))
        self.assert_stair([IF, A, C], [C], ("cut", B, (("left", IF, (SHUT_A, SHUT_B)), ("shut", C))))

    def test_one_stair_too_many_or_too_few(self):
        for left, right, stair in RULES + (([A], [A], ("cut", B, (SHUT_A, SHUT_A))),):
            word, saying, stairs = stair
            self.assert_none(left, right, (word, saying, stairs + (SHUT_A,)))
            self.assert_none(left, right, (word, saying, stairs[1:]))
            self.assert_none(left, right, (word, saying, ()))
            self.assert_none(left, right, (word, saying))
            self.assert_none(left, right, (word, saying, stairs, stairs))

    def test_a_list_in_a_tuples_place(self):
        for left, right, stair in RULES:
            word, saying, stairs = stair
            for thing in (list(stair), (word, saying, list(stairs)), (word, list(saying), stairs),
                          (word, saying, tuple([list(part) for part in stairs]))):
                self.assert_none(left, right, thing)
        self.assert_none([A], [A], ["shut", A])
        self.assert_none([A], [A], ("shut", list(A)))

    def test_another_word_and_a_saying_that_isnt_there(self):
        for left, right, stair in RULES:
            for word in ("Left", "cuts", "shut", "", None, 0, True, ("left",), [], "and"):
                self.assert_none(left, right, (word, *stair[1:]))
            for saying in (C, ("and", B, A), ("not", stair[1]), stair[1][1], YES, None, [], "and", stair[1][0]):
                self.assert_none(left, right, (stair[0], saying, stair[2]))
        self.assert_none([A], [A], ("left", A, ()))
        self.assert_none([A], [A], ("left", A, (SHUT_A,)))
        self.assert_none([NO], [], ("left", NO, (("shut", NO),)))

    def test_of_anything(self):
        for thing in ODD_THINGS + (within(150), 7 ** 60, ("shut",), ("shut", A, A), ("shut", within(148)),
                                   ("cut", within(140), (SHUT_A, SHUT_A)), [1] * 19999, ((),) * 19999):
            self.assert_none([A], [A], thing)
            self.assert_none([], [], thing)
            for left, right, stair in RULES:
                self.assert_none(left, right, (stair[0], thing, stair[2]))
                self.assert_none(left, right, (*stair[:2], thing))
                self.assert_none(left, right, (*stair[:2], (thing,) * len(stair[2])))
                self.assert_none(left, right, (thing, *stair[1:]))

    def test_a_saying_that_was_taken_away(self):
        again = ("left", AND, (("left", AND, (SHUT_B,)),))
        self.assert_none([AND], [B], again)
        self.assert_none([AND, AND], [B], again)
        self.assert_none([AND, AND], [AND], ("left", AND, (("shut", AND),)))
        once_more = ("left", ("and", AND, C), (("left", AND, (SHUT_B,)),))
        self.assert_stair([AND, ("and", AND, C)], [B], ("left", AND, (once_more,)))

    def test_lists_are_as_sets(self):
        for left, right, stair in RULES:
            for lists in ((left * 2, right), (left, right * 3), (left[::-1], right[::-1]), (left * 2, right + right)):
                self.assert_stair(*lists, stair)
        self.assert_stair([AND, A], [AND, A], SHUT_A)
        self.assert_stair([AND, A], [AND, A], ("right", AND, (SHUT_A, ("left", AND, (SHUT_B,)))))

    def test_a_stair_is_one_of_sequents_with_more(self):
        more = [AND, OR, IF, SAME, NOT, C, YES, NO, ("and", AND, OR)]
        for left, right, stair in RULES:
            for saying in more:
                self.assert_stair(left + [saying], right, stair)
                self.assert_stair([saying] + left, right + [saying, C], stair)
            self.assert_stair(more + left, right + more, stair)

    def test_of_stairs_of_chance(self):
        for left, right, stair in some_stairs(400, odd_cuts=True):
            self.assert_stair(left, right, stair)
            self.assert_stair(left[::-1] + [D], [C] + right, stair)

    def test_of_stairs_with_one_thing_wrong(self):
        told = {True: 0, False: 0}
        for number, (left, right, stair) in enumerate(some_stairs(400, odd_cuts=True)):
            chance = Random(number)
            other = self.changed(chance, stair)
            plain = is_plain_stair(left, right, other)
            self.assertIs(is_stair(left, right, other), plain)
            told[plain] += 1
        self.assertLess(100, told[False])

    def changed(self, chance, stair):
        """The stair with one of its steps changed."""
        if len(stair) == 2 or chance.random() < 0.3:
            saying = chance.choice([A, B, C, AND, OR, YES, NO, stair[1]])
            word = chance.choice(["left", "right", "cut", stair[0]]) if len(stair) == 3 else "shut"
            return (word, saying, *stair[2:])
        place = chance.randrange(len(stair[2]))
        stairs = list(stair[2])
        stairs[place] = self.changed(chance, stairs[place])
        return (*stair[:2], tuple(stairs))

    def test_what_is_handed_in_stays(self):
        left, right = [AND, A], [B]
        is_stair(left, right, ("left", AND, (SHUT_B,)))
        self.assertEqual(([AND, A], [B]), (left, right))


class Counted(Told):

    def test_steps_in(self):
        self.assertEqual(1, steps_in(SHUT_A))
        self.assertEqual(2, steps_in(RULES[0][2]))
        self.assertEqual(3, steps_in(RULES[3][2]))
        self.assertEqual(3, steps_in(("cut", A, (SHUT_A, SHUT_A))))
        for _, _, stair in some_stairs(200, odd_cuts=True):
            self.assertEqual(len(steps_of(stair)), steps_in(stair))

    def test_bound_of(self):
        self.assertEqual(1, bound_of(SHUT_A))
        self.assertEqual(3, bound_of(("shut", AND)))
        self.assertEqual(399, bound_of(("shut", evenly("or", 200))))
        self.assertEqual(4, bound_of(("left", NOT, (("shut", AND),))))
        self.assertEqual(5, bound_of(("right", AND, (("shut", OR), SHUT_A))))
        self.assertEqual(6, bound_of(("cut", A, (("shut", OR), ("shut", NOT)))))
        self.assertEqual(36, bound_of(("cut", A, (("cut", B, (("shut", OR), ("shut", NOT))),
                                                  ("right", AND, (("shut", IF), ("shut", NOT)))))))
        for _, _, stair in some_stairs(200, odd_cuts=True):
            self.assertEqual(plain_bound(stair), bound_of(stair))


class Sequent(Told):

    def assert_told(self, left, right, **more):
        kept = list(left), list(right)
        told = sequent(left, right, **more)
        self.assertEqual(kept, (left, right))
        self.assertIs(tuple, type(told))
        self.assertEqual(told, sequent(left, right, **more))
        word, thing = told
        if word == "row":
            self.assertEqual(names_of_lists(left, right), sorted(thing))
            self.assertTrue(all(type(yes) is bool for yes in thing.values()))
            self.assertTrue(is_open(thing, left, right))
        else:
            self.assertEqual("stair", word)
            self.assertTrue(is_plain_stair(left, right, thing))
            self.assert_stair(left, right, thing)
            self.assertNotIn("cut", steps_of(thing))
        return told

    def test_of_plain_lists(self):
        for left, right, stair in RULES:
            self.assertEqual("stair", self.assert_told(left, right)[0])
            self.assertEqual("row", self.assert_told(left, [])[0] if left != [NOT, A] else "row")
        for left, right, _ in SHUT:
            self.assertEqual("stair", self.assert_told(left, right)[0])

    def test_bare_lists(self):
        self.assertEqual(("row", {}), self.assert_told([], []))
        self.assertEqual(("row", {}), self.assert_told([YES], [NO]))
        self.assertEqual(("row", {"a": False}), self.assert_told([], [A]))
        self.assertEqual(("row", {"a": True}), self.assert_told([A], []))
        self.assertEqual(("stair", ("shut", YES)), self.assert_told([], [YES]))
        self.assertEqual(("stair", ("shut", NO)), self.assert_told([NO], []))

    def test_of_several_kinds(self):
        told = {"row": 0, "stair": 0}
        for left, right in some_sequents(600):
            word = self.assert_told(left, right)[0]
            self.assertEqual("stair" if follows(left, right) else "row", word)
            told[word] += 1
        self.assertLess(100, min(told.values()))

    def test_of_sixty_parts(self):
        for number in range(60):
            chance = Random(number)
            names = list("abcdefgh")[:3 + number % 6]
            lists = [[], []]
            left_parts = 60
            for saying in some_sayings(number, 40, names, 5):
                size = plain_bound(("shut", saying))
                if size <= left_parts:
                    left_parts -= size
                    chance.choice(lists).append(saying)
            self.assert_told(*lists)

    def test_names_that_give_one_another(self):
        names = [("name", f"x{letter}") for letter in "abcdefghijklmnopqrst"]
        rows = [("if", one, two) for one, two in zip(names, names[1:])]
        Random(5).shuffle(rows)
        self.assertEqual("stair", self.assert_told(rows + names[:1], names[-1:])[0])
        self.assertEqual("row", self.assert_told(rows[1:] + names[:1], names[-1:])[0])
        self.assertEqual("row", self.assert_told(rows, names[-1:])[0])

    def test_of_many_names(self):
        names = [("name", f"x{letter}") for letter in "abcdefghijklmnopqrstuvwxyz"]
        self.assertEqual("row", self.assert_told(names, [A, B])[0])
        self.assertEqual("stair", self.assert_told(names, [A, B, names[9]])[0])
        ors = [("or", names[2 * number], names[2 * number + 1]) for number in range(12)]
        self.assertEqual("row", self.assert_told(ors, [A])[0])
        self.assertEqual("stair", self.assert_told(ors + [A], [names[4], ("and", A, ("or", names[5], names[4]))])[0])

    def test_what_isnt_needed_makes_it_no_greater(self):
        others = [("or", C, D), ("if", D, C), ("same", ("or", C, B), D), ("and", ("or", B, D), ("or", C, D))]
        self.assertEqual(("stair", ("shut", OR)), self.assert_told([*others, OR], [OR, ("or", B, A)]))
        for left, right, stair in RULES:
            plain = steps_in(self.assert_told(left, right)[1])
            self.assertEqual(plain, steps_in(self.assert_told(others + left, right)[1]))
            self.assertEqual(plain, steps_in(self.assert_told(left, right + [("and", saying, D) for saying in others])[1]))
            self.assertLessEqual(plain, steps_in(stair))
        self.assertLessEqual(steps_in(self.assert_told([parity("abcd", True)], [parity("abcd", False)])[1]), 80)

    def test_refused_where_the_stair_has_more(self):
        for left, right in (([parity("abcd", True)], [parity("abcd", False)]), ([A], [A]), ([AND], [("and", B, A)])):
            told = self.assert_told(left, right)
            count = steps_in(told[1])
            for most in range(count + 5):
                if most < count:
                    self.assert_too_great(most, lambda: sequent(left, right, most=most))
                else:
                    self.assertEqual(told, sequent(left, right, most=most))

    def test_rows_are_never_refused(self):
        for most in (0, 1):
            self.assertEqual("row", self.assert_told([parity("abcdefghij", True), A], [C], most=most)[0])
            self.assertEqual("row", self.assert_told([], [A], most=most)[0])

    def test_refused_at_4000_where_it_is_left_out(self):
        left, right = [parity("abcdefghijkl", True)], [parity("abcdefghijkl", False)]
        self.assert_too_great(4000, lambda: sequent(left, right))
        self.assert_too_great(4000, lambda: sequent(left, right, most=4000))
        self.assertEqual("row", self.assert_told(left, [("not", right[0])])[0])

    def test_of_what_is_told(self):
        great = evenly("or", 200)
        self.assertEqual("stair", self.assert_told([great, ("not", great)], [])[0])
        self.assertEqual("stair", self.assert_told([great], [A, nots(24)])[0])
        self.assertEqual("row", self.assert_told([("not", great)], [A])[0])

    def test_rows_are_new(self):
        lists = [A], [B]
        sequent(*lists)[1].clear()
        self.assertEqual(("row", {"a": True, "b": False}), sequent(*lists))


class Uncut(Told):

    def assert_uncut(self, left, right, stair, **more):
        kept = list(left), list(right)
        told = uncut(left, right, stair, **more)
        self.assertEqual(kept, (left, right))
        self.assertEqual(told, uncut(left, right, stair, **more))
        self.assertTrue(is_plain_stair(left, right, told))
        self.assert_stair(left, right, told)
        self.assertNotIn("cut", steps_of(told))
        return told

    def test_of_one_cut(self):
        plain = ("left", IF, (SHUT_A, SHUT_B))
        self.assertEqual(plain, self.assert_uncut([A, IF], [B], ("cut", A, (SHUT_A, plain))))
        self.assertEqual(SHUT_A, self.assert_uncut([A], [A], ("cut", B, (SHUT_A, SHUT_A))))
        cut = ("cut", B, (("left", IF, (SHUT_A, SHUT_B)), ("left", ("if", B, C), (SHUT_B, ("shut", C)))))
        self.assert_uncut([A, IF, ("if", B, C)], [C], cut)

    def test_without_cut_it_is_no_greater(self):
        for left, right, stair in RULES:
            self.assertLessEqual(steps_in(self.assert_uncut(left, right, stair)), bound_of(stair))

    def test_a_cut_in_vain(self):
        # The program's own stair is greater than this one, which has to stay.
        left, right = [("and", A, B), ("same", YES, A)], [A, ("and", NO, YES), C]
        plain = ("left", ("and", A, B), (SHUT_A,))
        for cut in (("cut", C, (plain, ("shut", C))), ("cut", D, (plain, plain)),
                    ("cut", D, (("cut", C, (plain, plain)), plain))):
            self.assert_stair(left, right, cut)
            self.assertEqual(2, steps_in(self.assert_uncut(left, right, cut)))

    def test_a_saying_that_is_taken_apart_ahead_of_where_it_shuts(self):
        # The first stair takes it apart on one list or on both, to where the name is; the second is shut by it, behind
        # steps that want the name: with more of them it is the second one that is put in place in the first.
        whole = ("and", C, D)
        ahead = ("left", whole, (("shut", C),))
        inner = [NOT, AND, OR, IF, SAME]
        sayings = inner + [("not", saying) for saying in inner]
        sayings += [(kind, saying, D) for kind in PAIRS for saying in inner]
        sayings += [(kind, B, saying) for kind in PAIRS for saying in inner]
        for saying in sayings:
            for words in ("left", "right", "left right", "right left", "left left", "right right left"):
                for count in (1, 4, 12):
                    wanting = [("if", C, ("name", f"x{letter}")) for letter in "abcdefghijkl"[:count]]
                    second = ("shut", saying)
                    for want in wanting:
                        second = ("left", want, (("shut", C), second))
                    left = [saying, whole, *wanting]
                    first = self.apart(frozenset([saying, whole]), frozenset([saying, C]), words.split(), ahead)
                    cut = ("cut", C, (first, second))
                    self.assert_stair(left, [saying], cut)
                    told = self.assert_uncut(left, [saying], cut, most=bound_of(cut))
                    self.assertLessEqual(plain_bound(told), bound_of(cut))

    def apart(self, left, right, words, ahead):
        """The stair that takes apart what it can of a list, of one after the other, and then goes on so."""
        if not words:
            return ahead
        sayings = left if words[0] == "left" else right
        for saying in sorted(sayings):
            lists = branches(words[0], saying, left, right)
            if lists and saying != ahead[1]:
                return (words[0], saying, tuple([self.apart(*pair, words[1:], ahead) for pair in lists]))
        return self.apart(left, right, words[1:], ahead)

    def test_cuts_on_names_come_to_no_more_than_the_bound(self):
        for left, right, stair in some_stairs(800):
            most = bound_of(stair)
            told = self.assert_uncut(left, right, stair, most=most)
            self.assertLessEqual(steps_in(told), most)
            self.assertEqual(told, uncut(left, right, stair, most=10 ** 9))

    def test_cuts_on_any_sayings(self):
        for left, right, stair in some_stairs(500, odd_cuts=True, seed=5000):
            self.assert_uncut(left, right, stair)

    def test_refused_likewise(self):
        for left, right, stair in some_stairs(120, odd_cuts=True, seed=9000):
            told = uncut(left, right, stair)
            count = steps_in(told)
            was_told = False
            for most in [*range(count + 3), bound_of(stair), 10 ** 6]:
                try:
                    self.assertEqual(told, uncut(left, right, stair, most=most))
                    self.assertLessEqual(count, most)
                    was_told = True
                except TooGreat as refused:
                    self.assertEqual(most, refused.most)
                    self.assertFalse(was_told and most > count)

    def test_refused_at_4000_where_it_is_left_out(self):
        left, right = [parity("abcdefghij", True)], [parity("abcdefghij", False)]
        great = sequent(left, right, most=10 ** 6)[1]
        self.assertLess(4000, steps_in(great))
        for stair in (great, ("cut", C, (great, great)), ("cut", AND, (great, great))):
            self.assert_too_great(4000, lambda: uncut(left, right, stair))
            self.assertEqual(great, self.assert_uncut(left, right, stair, most=20000))

    def test_long_rows_of_cuts(self):
        stair = SHUT_A
        for number in range(400):
            stair = ("cut", ("name", "abcd"[number % 4]), (SHUT_A, stair))
        self.assertEqual(SHUT_A, self.assert_uncut([A], [A], stair))
        self.assertEqual(801, steps_in(stair))
        self.assertEqual(1, bound_of(stair))

    def test_each_pair_of_kinds(self):
        for one in PAIRS:
            for two in PAIRS:
                left, right = [(one, A, (two, B, C))], [(one, A, (two, B, C)), D]
                cut = ("cut", A, (("shut", left[0]), sequent([left[0], A], right)[1]))
                self.assert_uncut(left, right, cut)


if __name__ == "__main__":
    unittest.main()
