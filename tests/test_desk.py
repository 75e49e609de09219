"""A desk: promises 33 and 34, and 3 as far as it speaks of it."""

import unittest
from random import Random

from middlesay.desk import Desk
from middlesay.errors import NoClash, NoLabel, NoRow, TooGreat, TooMany
from middlesay.sayings import is_saying
from middlesay.sayingtexts import read_saying
from tests.helping import A, B, C, NO, ODD_THINGS, YES, evenly, nots, plain_names, plain_truth, rows_of, some_sayings
from tests.siding import MARKS
from tests.stairing import names_of_lists

ACROSS = {"one": "other", "other": "one"}
LABELS = list("pqrstuvw")
# No two of them can be asked away, and no clause fixes a name at first.
FOUR = [("or", A, B), ("or", A, ("not", B)), ("or", ("not", A), B), ("or", ("not", A), ("not", B))]


def desk_of(rows):
    """A desk that is told all anew: labels, sides and sayings."""
    desk = Desk()
    for label, side, saying in rows:
        desk.put(label, side, saying)
    return desk


def plain_desk(*texts):
    """A desk with rows of a text each: a label, a side and a saying."""
    rows = [text.split(" ", 2) for text in texts]
    return desk_of([(label, side, read_saying(saying)) for label, side, saying in rows])


class Told(unittest.TestCase):

    def assert_answers(self, desk, state):
        """What the desk tells where these sides and sayings stand by their labels."""
        self.assertEqual(sorted((label, side) for label, (side, _) in state.items()), desk.labels())
        sayings = [saying for _, saying in state.values()]
        names = names_of_lists(sayings)
        held = [row for row in rows_of(names) if all(plain_truth(saying, row) for saying in sayings)]
        clash, truth = desk.clash(), desk.truth()
        self.assertEqual((clash, truth), (desk.clash(), desk.truth()))
        if held:
            self.assertIsNone(clash)
            self.assertIn(truth, held)
            for way in MARKS:
                self.assert_no_clash(truth, lambda: desk.middle(way=way))
            return [truth]
        self.assertIsNone(truth)
        self.assertEqual(sorted(set(clash)), clash)
        self.assertFalse(self.can_be({label: state[label] for label in clash}))
        for label in clash:
            self.assertTrue(self.can_be({other: state[other] for other in clash if other != label}))
        return [clash, *[self.assert_middle(desk, state, names, way) for way in MARKS]]

    def can_be(self, state):
        sayings = [saying for _, saying in state.values()]
        return any(all(plain_truth(saying, row) for saying in sayings) for row in rows_of(names_of_lists(sayings)))

    def assert_middle(self, desk, state, names, way):
        saying = desk.middle(way=way)
        self.assertIs(is_saying(saying), True)
        self.assertEqual(saying, desk.middle(way=way))
        ones, others = [[held for side, held in state.values() if side == own] for own in ("one", "other")]
        self.assertLessEqual(plain_names(saying), set(names_of_lists(ones)) & set(names_of_lists(others)))
        for row in rows_of(names):
            self.assertTrue(plain_truth(saying, row) or not all(plain_truth(held, row) for held in ones))
            self.assertFalse(plain_truth(saying, row) and all(plain_truth(held, row) for held in others))
        return saying

    def assert_no_clash(self, row, told):
        with self.assertRaises(NoClash) as caught:
            told()
        self.assertEqual(row, caught.exception.row)
        self.assertIsInstance(caught.exception, LookupError)

    def assert_no_label(self, label, told):
        with self.assertRaises(NoLabel) as caught:
            told()
        self.assertEqual(label, caught.exception.label)
        self.assertIsInstance(caught.exception, KeyError)

    def assert_overflow(self, error, told_most, desk, **more):
        kept = desk.labels(), desk.deeds()
        for told in (desk.clash, desk.truth, desk.middle):
            with self.assertRaises(error) as caught:
                told(**more)
            self.assertIs(error, type(caught.exception))
            self.assertEqual(told_most, caught.exception.most)
        self.assertEqual(kept, (desk.labels(), desk.deeds()))


class Deeds(Told):

    def test_put_drop_move_undo(self):
        desk = Desk()
        self.assertIsNone(desk.put("q", "one", A))
        self.assertIsNone(desk.put("p", "other", B))
        self.assertEqual([("p", "other"), ("q", "one")], desk.labels())
        self.assertIsNone(desk.move("q"))
        self.assertEqual([("p", "other"), ("q", "other")], desk.labels())
        self.assertIsNone(desk.drop("p"))
        self.assertEqual([("q", "other")], desk.labels())
        for labels in ([("p", "other"), ("q", "other")], [("p", "other"), ("q", "one")], [("q", "one")], []):
            self.assertIsNone(desk.undo())
            self.assertEqual(labels, desk.labels())
        self.assertEqual(8, desk.deeds())

    def test_labels_there_already_and_not_there(self):
        desk = plain_desk("p one a", "q other b")
        for label in ("p", "q"):
            for side in ACROSS:
                self.assert_no_label(label, lambda: desk.put(label, side, C))
        for told in (desk.drop, desk.move):
            self.assert_no_label("r", lambda: told("r"))
        self.assertEqual((2, [("p", "one"), ("q", "other")]), (desk.deeds(), desk.labels()))
        desk.drop("p")
        self.assert_no_label("p", lambda: desk.move("p"))
        desk.put("p", "other", C)
        self.assert_answers(desk, {"p": ("other", C), "q": ("other", B)})

    def test_undo_to_nothing(self):
        desk = Desk()
        self.assert_no_label("undo", desk.undo)
        desk.put("p", "one", A)
        desk.undo()
        self.assert_no_label("undo", desk.undo)
        self.assert_no_label("undo", desk.undo)
        self.assertEqual((2, []), (desk.deeds(), desk.labels()))
        desk.put("undo", "one", B)
        desk.undo()
        self.assert_no_label("undo", desk.undo)

    def test_what_was_undone_isnt_undone_again(self):
        desk = Desk()
        desk.put("p", "one", A)
        desk.put("q", "one", B)
        desk.undo()
        desk.put("r", "other", C)
        desk.undo()
        desk.undo()
        self.assertEqual((6, []), (desk.deeds(), desk.labels()))
        self.assert_no_label("undo", desk.undo)

    def test_a_saying_dropped_comes_back(self):
        desk = plain_desk("p one a", "q other not a")
        desk.drop("p")
        self.assertIsNone(desk.clash())
        desk.put("p", "other", B)
        desk.undo()
        desk.undo()
        self.assert_answers(desk, {"p": ("one", A), "q": ("other", ("not", A))})

    def test_labels_are_new(self):
        desk = plain_desk("p one a", "q other not a")
        for told in (desk.labels, desk.clash):
            kept = told()
            told().clear()
            self.assertEqual(kept, told())
        desk.drop("q")
        desk.truth().clear()
        self.assertEqual({"a": True}, desk.truth())


class Asked(Told):

    def test_bare(self):
        desk = Desk()
        self.assertEqual(([], None, {}, 0), (desk.labels(), desk.clash(), desk.truth(), desk.deeds()))
        self.assert_no_clash({}, desk.middle)

    def test_clash(self):
        desk = plain_desk("p one a", "q one a gives b", "r other not b", "s other c", "t one b or c")
        self.assertEqual(["p", "q", "r"], desk.clash())
        self.assertEqual(B, desk.middle())
        desk.drop("q")
        self.assertEqual({"a": True, "b": False, "c": True}, desk.truth())
        self.assertEqual(["z"], desk_of([("p", "one", A), ("z", "other", NO)]).clash())
        self.assertEqual(["p"], desk_of([("p", "one", ("and", A, ("not", A))), ("q", "one", B)]).clash())

    def test_all_on_one_side(self):
        for side, saying in (("one", NO), ("other", YES)):
            desk = desk_of([("p", side, A), ("q", side, ("not", A))])
            for way in MARKS:
                self.assertEqual(saying, desk.middle(way=way))

    def test_ways(self):
        desk = desk_of([("p", "one", ("or", A, B)), ("q", "one", ("or", A, ("not", B))), ("r", "other", ("not", A)),
                        ("s", "other", ("or", B, C)), ("t", "other", ("not", B))])
        state = {"p": ("one", ("or", A, B)), "q": ("one", ("or", A, ("not", B))), "r": ("other", ("not", A)),
                 "s": ("other", ("or", B, C)), "t": ("other", ("not", B))}
        told = self.assert_answers(desk, state)
        self.assertEqual(desk.middle(), desk.middle(way="both"))
        self.assertEqual(4, len(told))

    def test_desks_of_chance(self):
        told = {1: 0, 4: 0}
        for number in range(150):
            chance = Random(number)
            sayings = some_sayings(number, chance.randint(1, 7), list("abcde"), 4)
            state = {label: (chance.choice(("one", "other")), saying) for label, saying in zip(LABELS, sayings)}
            told[len(self.assert_answers(desk_of([(label, *held) for label, held in state.items()]), state))] += 1
        self.assertLess(30, min(told.values()))

    def test_great_sayings_and_names_of_no_matter(self):
        great = evenly("or", 200)
        state = {"p": ("one", great), "q": ("other", ("not", great)), "r": ("one", nots(23, B))}
        self.assert_answers(desk_of([(label, *held) for label, held in state.items()]), state)
        desk = desk_of([("p", "one", ("if", A, A)), ("q", "other", ("or", B, YES))])
        self.assertEqual(["a", "b"], sorted(desk.truth()))

    def test_twenty_six_on_each_side(self):
        desk = Desk()
        for letter in "abcdefghijklmnopqrstuvwxyz":
            desk.put(f"x{letter}", "one", ("or", A, ("name", "bcdefghi"[ord(letter) % 8])))
            desk.put(f"y{letter}", "other", ("if", A, ("name", "bcdefghi"[ord(letter) % 8])))
        self.assertIsNone(desk.clash())
        desk.drop("xa")
        desk.put("xa", "one", ("not", B))
        desk.drop("ya")
        desk.put("ya", "other", A)
        self.assertEqual(3, len(desk.clash()))
        desk.middle()


class Overflow(Told):

    def test_more_than_nine_names(self):
        desk = desk_of([(f"p{name}", "one", ("name", name)) for name in "abcdefghi"])
        self.assertIsNone(desk.clash())
        desk.put("q", "other", ("not", ("name", "j")))
        self.assert_overflow(TooMany, 9, desk)
        desk.put("r", "other", ("name", "j"))
        self.assert_overflow(TooMany, 9, desk)
        desk.drop("r")
        desk.undo()
        desk.undo()
        desk.undo()
        self.assertEqual(dict.fromkeys("abcdefghi", True), desk.truth())

    def test_more_than_twenty_six_sayings_on_a_side(self):
        for side in ACROSS:
            desk = desk_of([(f"p{letter}", side, A) for letter in "abcdefghijklmnopqrstuvwxyz"])
            self.assertEqual({"a": True}, desk.truth())
            desk.put("q", side, ("not", A))
            self.assert_overflow(TooMany, 26, desk)
            self.assert_overflow(TooMany, 26, desk, most=0)
            desk.move("q")
            self.assertEqual(2, len(desk.clash()))
            self.assertEqual("q", desk.clash()[1])

    def test_names_go_ahead_of_sayings_and_these_of_too_great(self):
        desk = desk_of([(f"p{letter}", "one", ("name", letter)) for letter in "abcdefghijklmnopqrstuvwxyz"])
        desk.put("q", "one", A)
        self.assert_overflow(TooMany, 9, desk, most=0)

    def test_too_great(self):
        desk = desk_of([(label, "other" if number % 2 else "one", saying)
                        for number, (label, saying) in enumerate(zip(LABELS, FOUR))])
        kept = desk.clash(), desk.middle()
        self.assert_overflow(TooGreat, 0, desk, most=0)
        self.assertEqual(kept, (desk.clash(), desk.middle()))
        self.assertEqual(LABELS[:4], desk.clash(most=3))
        self.assertIsNone(desk.truth(most=3))
        self.assertEqual(kept[1], desk.middle(most=3))

    def test_with_a_greater_most_it_is_the_same(self):
        for number in range(60):
            sayings = some_sayings(number, 5, list("abcd"), 4)
            desk = desk_of([(label, "other" if place % 2 else "one", saying)
                            for place, (label, saying) in enumerate(zip(LABELS, sayings))])
            plain = desk.clash(), desk.truth()
            was_told = False
            for most in range(17):
                try:
                    self.assertEqual(plain, (desk.clash(most=most), desk.truth(most=most)))
                    was_told = True
                except TooGreat as refused:
                    self.assertEqual(most, refused.most)
                    self.assertFalse(was_told)
            self.assertTrue(was_told)

    def test_never_at_5000(self):
        names = [("name", letter) for letter in "abcdefghi"]
        whole = names[0]
        other = names[-1]
        for number in range(1, 9):
            whole, other = ("same", whole, names[number]), ("same", names[-1 - number], other)
        desk = desk_of([("p", "one", whole), ("q", "other", ("not", other))])
        self.assertEqual(["p", "q"], desk.clash())
        self.assertIsNone(desk.truth())
        desk.middle()


class Anew(Told):

    def test_as_one_that_is_told_all_anew(self):
        for number in range(12):
            chance = Random(number)
            desk, states, done = Desk(), [{}], 0
            for _ in range(40):
                done += self.do_something(chance, desk, states)
                self.assertEqual(done, desk.deeds())
                rows = [(label, *held) for label, held in states[-1].items()]
                chance.shuffle(rows)
                self.assertEqual(self.assert_answers(desk_of(rows), states[-1]), self.assert_answers(desk, states[-1]))
            while len(states) > 1:
                states.pop()
                desk.undo()
                self.assert_answers(desk, states[-1])
            self.assert_no_label("undo", desk.undo)

    def do_something(self, chance, desk, states):
        """One deed, maybe one that is refused; how many were done."""
        label, now = chance.choice(LABELS), dict(states[-1])
        word = chance.choice(("put", "put", "put", "drop", "move", "undo"))
        if word == "undo":
            if len(states) == 1:
                self.assert_no_label("undo", desk.undo)
                return 0
            desk.undo()
            states.pop()
            return 1
        saying = some_sayings(chance.randrange(10 ** 6), 1, list("abcd"), 4)[0]
        told = (label, chance.choice(("one", "other")), saying) if word == "put" else (label,)
        if (label in now) == (word == "put"):
            self.assert_no_label(label, lambda: getattr(desk, word)(*told))
            return 0
        getattr(desk, word)(*told)
        if word == "put":
            now[label] = told[1:]
        elif word == "drop":
            del now[label]
        else:
            now[label] = (ACROSS[now[label][0]], now[label][1])
        states.append(now)
        return 1

    def test_desks_beside_one_another(self):
        first, second = plain_desk("p one a"), plain_desk("p other not a", "q one b")
        first.put("q", "other", ("not", A))
        second.drop("q")
        self.assert_answers(first, {"p": ("one", A), "q": ("other", ("not", A))})
        self.assert_answers(second, {"p": ("other", ("not", A))})
        self.assertEqual((2, 3), (first.deeds(), second.deeds()))


class Several(Told):

    RIGHT = [("put", "r", "one", C), ("move", "p"), ("drop", "q"), ("put", "q", "one", NO), ("move", "q")]
    NONE = (
        (), ("put",), ("put", "s"), ("put", "s", "one"), ("put", "s", "one", A, A), ("put", "s", "two", A),
        ("put", "s", None, A), ("put", "s", ["one"], A), ("put", "S", "one", A), ("put", "not", "one", A),
        ("put", "s1", "one", A), ("put", "", "one", A), ("put", "abcdefghi", "one", A), ("put", None, "one", A),
        ("put", ["s"], "one", A), ("put", "s", "one", "a"), ("put", "s", "one", ["name", "a"]),
        ("put", "s", "one", nots(25)), ("put", "s", "one", evenly("or", 201)), ("drop",), ("drop", "p", "p"),
        ("drop", "yes"), ("drop", 0), ("drop", ["p"]), ("move",), ("move", "p", "one"), ("move", "P"), ("move", None),
        ("undo",), ("undo", "p"), ("puts", "s", "one", A), ("drop", "p", "one", A), ("move", "p", "one", A),
        ("labels", "p"), (None, "p"), (["drop"], "p"), ["drop", "p"], ["put", "s", "one", A], "drop", {"drop": "p"},
    )

    def desk(self):
        desk = plain_desk("p one a", "q other b")
        desk.put("z", "one", C)
        desk.undo()
        return desk

    def assert_no_row(self, number, rows):
        desk, kept = self.desk(), list(rows)
        with self.assertRaises(NoRow) as caught:
            desk.several(rows)
        self.assertEqual(number, caught.exception.row)
        self.assertIsInstance(caught.exception, ValueError)
        self.assertEqual(kept, rows)
        self.assert_nothing_done(desk)

    def assert_no_label_of_rows(self, label, rows):
        desk, kept = self.desk(), list(rows)
        self.assert_no_label(label, lambda: desk.several(rows))
        self.assertEqual(kept, rows)
        self.assert_nothing_done(desk)

    def assert_nothing_done(self, desk):
        self.assertEqual(4, desk.deeds())
        self.assert_answers(desk, {"p": ("one", A), "q": ("other", B)})
        desk.undo()
        desk.undo()
        self.assert_no_label("undo", desk.undo)

    def test_bare(self):
        desk = self.desk()
        self.assertIsNone(desk.several([]))
        self.assert_nothing_done(desk)

    def test_right_lists(self):
        desk = self.desk()
        rows = list(self.RIGHT)
        self.assertIsNone(desk.several(rows))
        self.assertEqual(self.RIGHT, rows)
        self.assertEqual(9, desk.deeds())
        self.assert_answers(desk, {"p": ("other", A), "q": ("other", NO), "r": ("one", C)})

    def test_taken_back_one_by_one(self):
        desk = self.desk()
        desk.several(self.RIGHT)
        for state in ({"p": ("other", A), "q": ("one", NO), "r": ("one", C)}, {"p": ("other", A), "r": ("one", C)},
                      {"p": ("other", A), "q": ("other", B), "r": ("one", C)},
                      {"p": ("one", A), "q": ("other", B), "r": ("one", C)}, {"p": ("one", A), "q": ("other", B)}):
            desk.undo()
            self.assert_answers(desk, state)
        self.assertEqual(14, desk.deeds())

    def test_a_row_that_is_none_at_each_place(self):
        for none in self.NONE:
            self.assert_no_row(0, [none])
        for none in ODD_THINGS:
            for number in range(len(self.RIGHT) + 1):
                self.assert_no_row(number, self.RIGHT[:number] + [none] + self.RIGHT[number:])
        self.assert_no_row(1, [("drop", "p"), ("undo",), ()])

    def test_one_refused_at_each_place(self):
        for label, row in (("u", ("drop", "u")), ("v", ("move", "v")), ("undo", ("drop", "undo"))):
            for number in range(len(self.RIGHT) + 1):
                desk = self.desk()
                rows = self.RIGHT[:number] + [row, ("drop", "w")] + self.RIGHT[number:]
                self.assert_no_label(label, lambda: desk.several(rows))
                self.assert_nothing_done(desk)
        for number, row in enumerate([("put", "p", "one", A), ("put", "r", "other", A), ("put", "p", "one", B),
                                      ("drop", "q"), ("put", "q", "one", NO)]):
            desk = self.desk()
            self.assert_no_label(row[1], lambda: desk.several(self.RIGHT[:number] + [row]))
            self.assert_nothing_done(desk)

    def test_the_first_that_is_refused_or_is_none_decides(self):
        refused = ("drop", "u")
        for none in ODD_THINGS:
            for first in range(len(self.RIGHT) + 1):
                for second in range(first, len(self.RIGHT) + 1):
                    begin, middle, end = self.RIGHT[:first], self.RIGHT[first:second], self.RIGHT[second:]
                    self.assert_no_row(first, begin + [none] + middle + [refused] + end)
                    self.assert_no_label_of_rows("u", begin + [refused] + middle + [none] + end)

    def test_refused_for_what_rows_ahead_did_and_one_that_is_none_behind(self):
        self.assert_no_label_of_rows("p", [("drop", "p"), ("move", "p"), ()])
        self.assert_no_label_of_rows("s", [("put", "s", "one", A), ("put", "s", "other", A), ("put", "t", "two", A)])
        self.assert_no_label_of_rows("u", [("move", "u"), ("undo",)])
        self.assert_no_row(1, [("drop", "p"), ("undo",), ("move", "p")])

    def test_a_row_that_is_none_though_its_label_would_be_refused_too(self):
        self.assert_no_row(0, [("put", "p", "two", A)])
        self.assert_no_row(1, [("move", "p"), ("put", "p", "one", ("nought",)), ("drop", "u")])

    def test_refused_in_the_midst_of_many(self):
        desk = self.desk()
        rows = [row for _ in range(200) for row in (("move", "p"), ("drop", "q"), ("put", "q", "other", B))]
        self.assert_no_label("u", lambda: desk.several(rows + [("move", "u")]))
        self.assert_nothing_done(desk)
        self.assert_no_row(600, rows + [("undo",), ("move", "u")])
        desk = self.desk()
        desk.several(rows)
        self.assertEqual(604, desk.deeds())
        self.assert_answers(desk, {"p": ("one", A), "q": ("other", B)})
        for _ in range(600):
            desk.undo()
        self.assertEqual(1204, desk.deeds())
        desk.undo()
        desk.undo()
        self.assertEqual([], desk.labels())


if __name__ == "__main__":
    unittest.main()
