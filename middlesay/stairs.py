"""Stairs: what each step takes away and puts in, and how they are put together."""

from middlesay.errors import TooGreat
from middlesay.sayings import parts_of

YES = ("yes",)
NO = ("no",)
SIDES = ("left", "right")
LEFT = 0
RIGHT = 1
# By the side and kind of the saying that is taken apart: for each stair above, the places of parts on either list.
RULES = {
    ("left", "not"): (((), (0,)),),
    ("right", "not"): (((0,), ()),),
    ("left", "and"): (((0, 1), ()),),
    ("right", "and"): (((), (0,)), ((), (1,))),
    ("left", "or"): (((0,), ()), ((1,), ())),
    ("right", "or"): (((), (0, 1)),),
    ("left", "if"): (((), (0,)), ((1,), ())),
    ("right", "if"): (((0,), (1,)),),
    ("left", "same"): (((0, 1), ()), ((), (0, 1))),
    ("right", "same"): (((0,), (1,)), ((1,), (0,))),
}


class Book:
    """Sayings by numbers, parts' the lesser ones, so that lists of them are told by bits: a pair, left and right."""

    def __init__(self):
        self._numbers = {}
        self._sayings = []
        self._parts = []
        self._sizes = []
        self._branches = []
        self._yes = 1 << self.number(YES)
        self._no = 1 << self.number(NO)

    def number(self, saying):
        """The number of a saying, which is put to the others if it wasn't yet."""
        # By its text, as sayings may be too deep for keys.
        text = repr(saying)
        if text not in self._numbers:
            parts = tuple([self.number(part) for part in parts_of(saying)])
            self._numbers[text] = len(self._sayings)
            self._sayings.append(saying)
            self._parts.append(parts)
            self._sizes.append(1 + sum([self._sizes[part] for part in parts]))
            self._branches.append([_put_in(RULES.get((side, saying[0]), ()), parts) for side in SIDES])
        return self._numbers[text]

    def found(self, thing):
        """The number of anything, None where it is no saying of the book."""
        return self._numbers.get(repr(thing))

    def saying(self, number):
        """The saying of this number."""
        return self._sayings[number]

    def parts(self, number):
        """The numbers of a saying's parts."""
        return self._parts[number]

    def size(self, number):
        """How many parts a saying has in all."""
        return self._sizes[number]

    def lists_of(self, left, right):
        """The two lists of sayings, by bits."""
        return tuple([sum([1 << number for number in sorted({self.number(saying) for saying in sayings})])
                      for sayings in (left, right)])

    def put_in(self, side, number):
        """What taking a saying apart puts in, for each stair above: pairs of a side and a number; none, if it can't."""
        return self._branches[number][side]

    def above(self, lists, side, number):
        """The lists of each stair above where this saying is taken apart."""
        kept = list(lists)
        kept[side] &= ~(1 << number)
        told = []
        for pairs in self.put_in(side, number):
            put = list(kept)
            for other_side, part in pairs:
                put[other_side] |= 1 << part
            told.append(tuple(put))
        return told

    def above_cut(self, lists, number):
        """The lists of each stair above a cut."""
        left, right = lists
        return [(left, right | 1 << number), (left | 1 << number, right)]

    def shutting(self, lists):
        """The sayings, by bits, each of which shuts these lists."""
        left, right = lists
        return left & right | left & self._no | right & self._yes


def _put_in(branches, parts):
    """For each branch of a rule the pairs of a side and a part's number."""
    return tuple([
        tuple([(side, parts[place]) for side in (LEFT, RIGHT) for place in branch[side]]) for branch in branches
    ])


def grown(place, told_at, most):
    """The stair of a place, of what told_at tells of each: the step's word and saying, and the places above it.

    It is refused where it has more steps than most, if that is told.
    """
    places = [place]
    rows = []
    while len(rows) < len(places):
        # Each place comes to a step at least, so there is no need to wait for them.
        if most is not None and len(places) > most:
            raise TooGreat(most)
        word, saying, above = told_at(places[len(rows)])
        rows.append((word, saying, len(places), len(above)))
        places.extend(above)
    return _put_together(rows)


def _put_together(rows):
    """The stair of rows: a step's word and saying, the first number of those above, and how many there are."""
    stairs = {}
    for number in reversed(range(len(rows))):
        word, saying, first, count = rows[number]
        above = tuple([stairs[first + place] for place in range(count)])
        stairs[number] = (word, saying, above) if above else (word, saying)
    return stairs[0]


def stairs_above(stair):
    """The stairs just above a step."""
    return stair[2] if len(stair) == 3 else ()


def stairs_within(stair):
    """A stair and all above it, each with the place at which those just above it begin, behind it."""
    places = [stair]
    firsts = []
    while len(firsts) < len(places):
        above = stairs_above(places[len(firsts)])
        firsts.append(len(places))
        places.extend(above)
    return list(zip(places, firsts))
