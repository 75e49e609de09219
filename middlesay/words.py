"""Words, letters for numbers, and names that have to be known."""

from middlesay.errors import NoName

SMALL_LETTERS = "abcdefghijklmnopqrstuvwxyz"
MOST_LETTERS = 8
BARRED = ("not", "and", "or", "gives", "is", "yes", "no")


def is_word(thing):
    """Whether anything is a word."""
    if not isinstance(thing, str) or not 1 <= len(thing) <= MOST_LETTERS:
        return False
    return thing not in BARRED and all([sign in SMALL_LETTERS for sign in thing])


def letters_of(number):
    """The letters of a number: a to z for the first ones, then aa, ab and so on."""
    letters = ""
    while number >= 0:
        letters = SMALL_LETTERS[number % len(SMALL_LETTERS)] + letters
        number = number // len(SMALL_LETTERS) - 1
    return letters


def refuse_lacking(names, known):
    """Refuse the least of these sorted names that isn't among the known ones."""
    for name in names:
        if name not in known:
            raise NoName(name)
