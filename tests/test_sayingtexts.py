"""Sayings as texts and back: promise 6."""

import unittest

from middlesay.errors import NoText
from middlesay.sayings import is_saying
from middlesay.sayingtexts import read_saying, show_saying
from tests.helping import A, B, C, D, NO, ODD_THINGS, PAIRS, YES, evenly, nots, small_sayings, some_sayings

SIGNS = {"and": "and", "or": "or", "if": "gives", "same": "is"}
BINDING = {"and": 4, "or": 3, "if": 2, "same": 1}


class Show(unittest.TestCase):

    def test_each_kind(self):
        for saying, text in (
            (YES, "yes"), (NO, "no"), (A, "a"), (("name", "abcdefgh"), "abcdefgh"), (("not", A), "not a"),
            (("not", ("not", YES)), "not not yes"), (("and", A, B), "a and b"), (("or", A, B), "a or b"),
            (("if", A, B), "a gives b"), (("same", A, B), "a is b"),
        ):
            self.assertEqual(text, show_saying(saying))

    def test_brackets_just_where_they_are_due(self):
        for outer in PAIRS:
            for inner in PAIRS:
                part = f"a {SIGNS[inner]} b"
                less, no_more = BINDING[inner] < BINDING[outer], BINDING[inner] <= BINDING[outer]
                left = f"({part})" if (less if outer in ("and", "or") else no_more) else part
                right = f"({part})" if no_more else part
                self.assertEqual(f"{left} {SIGNS[outer]} c", show_saying((outer, (inner, A, B), C)))
                self.assertEqual(f"c {SIGNS[outer]} {right}", show_saying((outer, C, (inner, A, B))))

    def test_brackets_by_the_letter(self):
        for saying, text in (
            (("and", ("and", A, B), C), "a and b and c"), (("and", A, ("and", B, C)), "a and (b and c)"),
            (("or", ("or", A, B), C), "a or b or c"), (("or", A, ("or", B, C)), "a or (b or c)"),
            (("if", ("if", A, B), C), "(a gives b) gives c"), (("if", A, ("if", B, C)), "a gives (b gives c)"),
            (("same", ("same", A, B), C), "(a is b) is c"), (("same", A, ("same", B, C)), "a is (b is c)"),
            (("same", ("if", A, B), ("if", C, D)), "a gives b is c gives d"),
            (("if", ("same", A, B), C), "(a is b) gives c"), (("or", ("and", A, B), ("and", C, D)), "a and b or c and d"),
            (("and", ("or", A, B), ("or", C, D)), "(a or b) and (c or d)"), (("not", ("and", A, B)), "not (a and b)"),
            (("and", ("not", A), ("not", B)), "not a and not b"), (("not", ("not", ("or", A, B))), "not not (a or b)"),
            (("not", ("same", ("not", A), YES)), "not (not a is yes)"),
        ):
            self.assertEqual(text, show_saying(saying))

    def test_a_part_that_isnt_of_two_has_none(self):
        for outer in PAIRS:
            for part, text in ((YES, "yes"), (NO, "no"), (("not", A), "not a"), (("not", ("not", A)), "not not a")):
                self.assertEqual(f"{text} {SIGNS[outer]} {text}", show_saying((outer, part, part)))

    def test_what_is_too_great_behind_a_not(self):
        self.assertEqual("not " * 25 + "a", show_saying(nots(25)))


class Read(unittest.TestCase):

    def assert_no_text(self, text):
        with self.assertRaises(NoText) as caught:
            read_saying(text)
        self.assertEqual(0, caught.exception.row)
        self.assertIsInstance(caught.exception, ValueError)

    def test_each_shown_text_is_read_as_the_very_saying(self):
        for saying in small_sayings() + some_sayings(5, 1500, ["a", "b", "abcdefgh", "z"], 7):
            self.assertEqual(saying, read_saying(show_saying(saying)))

    def test_more_blanks(self):
        for text in (" a and not b", "a and not b ", "  a  and   not  b  ", "a and not b" + " " * 999):
            self.assertEqual(("and", A, ("not", B)), read_saying(text))

    def test_blanks_beside_brackets(self):
        for text in ("not(a or b)and c", "not (a or b) and c", "not( a or b )and c", " not  (  a  or  b  )  and  c ",
                     "(not(a or b))and(c)", "((not (a or b))and((c)))"):
            self.assertEqual(("and", ("not", ("or", A, B)), C), read_saying(text))

    def test_more_brackets_about_any_saying(self):
        for saying in small_sayings() + some_sayings(6, 200, ["a", "b"], 5):
            self.assertEqual(saying, read_saying(_all_bracketed(saying, 1)))
            self.assertEqual(saying, read_saying(_all_bracketed(saying, 3)))

    def test_brackets_are_no_parts(self):
        saying = evenly("or", 200)
        self.assertEqual(saying, read_saying(_all_bracketed(saying, 4)))

    def test_read_to_the_left(self):
        self.assertEqual(("and", ("and", A, B), C), read_saying("a and b and c"))
        self.assertEqual(("or", ("or", A, B), C), read_saying("a or b or c"))
        self.assertEqual(("or", ("or", A, ("and", B, C)), D), read_saying("a or b and c or d"))
        self.assertEqual(("and", ("and", ("and", A, B), C), D), read_saying("a and b and c and d"))

    def test_binding(self):
        self.assertEqual(("and", ("not", A), B), read_saying("not a and b"))
        self.assertEqual(("same", ("if", ("or", A, ("and", B, C)), D), A), read_saying("a or b and c gives d is a"))
        self.assertEqual(("same", A, ("if", B, ("or", C, ("and", D, A)))), read_saying("a is b gives c or d and a"))
        self.assertEqual(("same", ("if", A, B), ("if", C, D)), read_saying("a gives b is c gives d"))

    def test_gives_and_is_do_not_go_on(self):
        for text in ("a gives b gives c", "a is b is c", "a gives b and c gives d", "a is b gives c is d",
                     "(a gives b gives c)", "a gives b or d gives c", "a is not b is c", "a is b or (a is b is c)"):
            self.assert_no_text(text)
        self.assertEqual(("if", A, ("if", B, C)), read_saying("a gives (b gives c)"))
        self.assertEqual(("same", ("same", A, B), C), read_saying("(a is b) is c"))

    def test_words_that_begin_as_others(self):
        for word in ("nota", "andy", "ora", "isa", "givesa", "yesa", "noa", "n", "an", "give"):
            self.assertEqual(("name", word), read_saying(word))

    def test_fifty_brackets_open_at_once(self):
        self.assertEqual(A, read_saying("(" * 50 + "a" + ")" * 50))
        self.assertEqual(("and", A, B), read_saying("(" * 50 + "a" + ")" * 50 + " and " + "(" * 50 + "b" + ")" * 50))
        nested = "not (" * 24 + "(" * 26 + "a" + ")" * 50
        self.assertEqual(nots(24), read_saying(nested))

    def test_fifty_one_brackets_open_at_once(self):
        self.assert_no_text("(" * 51 + "a" + ")" * 51)
        self.assert_no_text("not (" * 24 + "(" * 27 + "a" + ")" * 51)
        self.assert_no_text("b and " + "(" * 51 + "a" + ")" * 51)

    def test_just_400_parts_and_401(self):
        four_hundred = ("not", evenly("and", 200))
        text = show_saying(four_hundred)
        self.assertEqual(four_hundred, read_saying(text))
        self.assert_no_text("not " + text)
        self.assert_no_text(show_saying(evenly("or", 201)))
        self.assert_no_text("a and " * 200 + "a")

    def test_just_25_within_one_another_and_26(self):
        self.assertEqual(nots(24), read_saying("not " * 24 + "a"))
        self.assert_no_text("not " * 25 + "a")
        self.assertTrue(is_saying(read_saying("a and " * 24 + "a")))
        self.assert_no_text("a and " * 25 + "a")

    def test_very_long_texts(self):
        for text in ("not " * 20000 + "a", "(" * 20000 + "a" + ")" * 20000, "a and " * 20000 + "a", "a" * 20000,
                     "a or(" * 20000, ") " * 20000, "(" * 20000):
            self.assert_no_text(text)

    def test_nothing_to_read(self):
        for text in ("", " ", "     ", "()", "( )", "(())"):
            self.assert_no_text(text)

    def test_signs_that_stand_in_no_text(self):
        for text in ("\n", "a\n", "\na", "a\nand b", "a and\nb", "a\tand b", "-a", "a1", "a0 and b", "1", "A", "a & b",
                     "a, b", "a.", ".", "'a'", "[a]", "a~", "{a}", "a_b", "a=b", "~a", "Not a", "a AND b", "a!"):
            self.assert_no_text(text)

    def test_words_too_long(self):
        for text in ("abcdefghi", "a and abcdefghi", "(abcdefghi)", "notnotnot"):
            self.assert_no_text(text)

    def test_words_in_wrong_places(self):
        for text in ("a b", "yes no", "a yes", "(a) b", "a (b)", "(a)(b)", "a(b)", "(a)b", "a not b", "a and", "and a",
                     "not", "not and a", "a and or b", "a gives", "is", "gives b", "a or not", "not (and)", "(not) a",
                     "a and and b", "(a and) b", "a (and b)", "(a or) (b)", "yes yes", "not a not", "a and not"):
            self.assert_no_text(text)

    def test_a_bracket_too_many_or_too_few(self):
        for text in ("(a", "a)", "((a)", "(a))", ")a(", "(a and b", "a and b)", "not (a", "not a)", "(", ")", "a and (",
                     "a and )b", "(a or b)) and (c"):
            self.assert_no_text(text)

    def test_what_is_no_text(self):
        for thing in ODD_THINGS:
            if not isinstance(thing, str):
                self.assert_no_text(thing)
        for thing in (A, ["a"], ("a",), {"a": 1}, b"a"):
            self.assert_no_text(thing)


def _all_bracketed(saying, times):
    kind = saying[0]
    if kind == "name":
        text = saying[1]
    elif kind in ("yes", "no"):
        text = kind
    else:
        texts = [_all_bracketed(part, times) for part in saying[1:]]
        text = f"not {texts[0]}" if kind == "not" else f" {SIGNS[kind]} ".join(texts)
    return "(" * times + text + ")" * times


if __name__ == "__main__":
    unittest.main()
