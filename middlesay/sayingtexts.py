"""Sayings as texts, and read from them."""

from middlesay.errors import NoText
from middlesay.sayings import MOST_PARTS, is_saying
from middlesay.words import is_word

SIGNS = {"and": "and", "or": "or", "if": "gives", "same": "is"}
KINDS = {"and": "and", "or": "or", "gives": "if", "is": "same"}
BINDING = {"and": 4, "or": 3, "if": 2, "same": 1}
NOT_BINDING = 5
READ_LEFTWARD = ("and", "or")
MOST_BRACKETS = 50


def show_saying(saying):
    """The text of a saying."""
    kind = saying[0]
    if kind == "name":
        return saying[1]
    if kind == "not":
        return f"not {_show_part(saying[1], NOT_BINDING)}"
    if kind in ("yes", "no"):
        return kind
    binding = BINDING[kind]
    left = _show_part(saying[1], binding if kind in READ_LEFTWARD else binding + 1)
    right = _show_part(saying[2], binding + 1)
    return f"{left} {SIGNS[kind]} {right}"


def _show_part(part, least):
    """The text of a part, in brackets where it binds less than the least that goes without."""
    text = show_saying(part)
    if BINDING.get(part[0], NOT_BINDING) < least:
        return f"({text})"
    return text


def read_saying(text):
    """The saying whose text this is."""
    if not isinstance(text, str):
        raise NoText(0)
    words = _words_of(text)
    # Each word is one part of the saying; what has too many isn't worth the reading.
    if len([word for word in words if word not in ("(", ")")]) > MOST_PARTS:
        raise NoText(0)
    reading = Reading()
    for word in words:
        reading.take(word)
    saying = reading.end()
    if not is_saying(saying):
        raise NoText(0)
    return saying


def _words_of(text):
    """The words and brackets of a text; of a sign that stands in no text a word is made that is none."""
    parted = text.replace("(", " ( ").replace(")", " ) ").split(" ")
    return [word for word in parted if word]


class Reading:
    """What was read so far: sayings that are whole, and the words that wait for what is behind them."""

    def __init__(self):
        self._whole = []
        self._waiting = []
        self._brackets = 0
        self._wants_part = True

    def take(self, word):
        """Read one more word or bracket."""
        if self._wants_part:
            self._begin_part(word)
        elif word == ")":
            self._shut_bracket()
        elif word in KINDS:
            self._wait_for_right(KINDS[word])
        else:
            raise NoText(0)

    def end(self):
        """The saying that was read, where the text ends here."""
        if self._wants_part or self._brackets:
            raise NoText(0)
        self._put_together(1)
        return self._whole[0]

    def _begin_part(self, word):
        if word == "(" and self._brackets < MOST_BRACKETS:
            self._brackets += 1
            self._waiting.append(word)
        elif word == "not":
            self._waiting.append(word)
        elif word in ("yes", "no"):
            self._end_part((word,))
        elif is_word(word):
            self._end_part(("name", word))
        else:
            raise NoText(0)

    def _end_part(self, saying):
        self._whole.append(saying)
        self._wants_part = False

    def _shut_bracket(self):
        if not self._brackets:
            raise NoText(0)
        self._put_together(1)
        self._waiting.pop()
        self._brackets -= 1

    def _wait_for_right(self, kind):
        binding = BINDING[kind]
        self._put_together(binding if kind in READ_LEFTWARD else binding + 1)
        if self._waiting and self._waiting[-1] == kind:
            raise NoText(0)
        self._waiting.append(kind)
        self._wants_part = True

    def _put_together(self, least):
        """Make sayings of the words that wait last and bind no less than this, up to a bracket."""
        while self._waiting and self._waiting[-1] != "(":
            kind = self._waiting[-1]
            if BINDING.get(kind, NOT_BINDING) < least:
                return
            self._waiting.pop()
            right = self._whole.pop()
            if kind == "not":
                self._whole.append(("not", right))
            else:
                left = self._whole.pop()
                self._whole.append((kind, left, right))
