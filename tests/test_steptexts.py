"""A clause's text: of promise 31."""

import unittest

from middlesay.steptexts import show_clause


class ShowClause(unittest.TestCase):

    def test_texts(self):
        for clause, text in (
            ((), "."), ((("a", True),), "a"), ((("a", False),), "-a"), ((("a", True), ("b", True)), "a b"),
            ((("a", False), ("b0", True), ("c12", False)), "-a b0 -c12"),
            ((("abcdefgh1234", False), ("b", False)), "-abcdefgh1234 -b"),
        ):
            self.assertEqual(text, show_clause(clause))


if __name__ == "__main__":
    unittest.main()
