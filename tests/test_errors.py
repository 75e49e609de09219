"""The refusals of the interface."""

import unittest

from middlesay.errors import NoChain, NoClash, NoLabel, NoMark, NoName, NoOrder, NoRow, NoStep, NoText, NoTree, NoWay
from middlesay.errors import TooGreat, TooMany

REFUSALS = (
    (NoText, "row", ValueError, 7), (NoChain, "why", ValueError, "no end"), (NoTree, "why", ValueError, "no top"),
    (NoWay, "why", ValueError, "no way"), (NoRow, "row", ValueError, 2), (NoName, "name", KeyError, "a"),
    (NoLabel, "label", KeyError, "undo"), (NoStep, "step", IndexError, 3), (NoMark, "spot", LookupError, (1, "a")),
    (NoOrder, "spot", LookupError, (0, "b")), (NoClash, "row", LookupError, {"a": True}),
    (TooGreat, "most", OverflowError, 400), (TooMany, "most", OverflowError, 9),
)


class Refusals(unittest.TestCase):

    def test_there_are_thirteen_of_unlike_names(self):
        self.assertEqual(13, len({refusal.__name__ for refusal, _, _, _ in REFUSALS}))

    def test_the_field_is_what_it_was_made_of(self):
        for refusal, field, _, worth in REFUSALS:
            with self.subTest(refusal.__name__):
                self.assertIs(getattr(refusal(worth), field), worth)
                self.assertEqual([field], list(vars(refusal(worth))))

    def test_it_is_made_of_its_field_alone(self):
        for refusal, _, _, worth in REFUSALS:
            with self.subTest(refusal.__name__):
                self.assertRaises(TypeError, refusal)
                self.assertRaises(TypeError, refusal, worth, worth)

    def test_each_stands_straight_under_its_error(self):
        for refusal, _, above, _ in REFUSALS:
            with self.subTest(refusal.__name__):
                self.assertEqual((above,), refusal.__bases__)

    def test_each_is_caught_by_its_own_class_and_the_one_above_and_no_other(self):
        for refusal, _, above, worth in REFUSALS:
            for other, _, _, _ in REFUSALS:
                with self.subTest(f"{refusal.__name__} {other.__name__}"):
                    self.assertEqual(other is refusal, isinstance(refusal(worth), other))
            for catching in (refusal, above):
                with self.assertRaises(catching):
                    raise refusal(worth)


if __name__ == "__main__":
    unittest.main()
