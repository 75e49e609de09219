"""Middles of stairs without cut whose lists are each parted in two."""

from middlesay.errors import TooGreat
from middlesay.fitting import fitted
from middlesay.proving import proved
from middlesay.pruning import pruned
from middlesay.sayings import MOST_PARTS, is_saying, names_of
from middlesay.sequents import bound_of
from middlesay.shaping import saying_of_table
from middlesay.stairs import LEFT, NO, RIGHT, SIDES, YES, Book
from middlesay.tables import table

OURS = 0
THEIRS = 1
MOST_BY_TABLE = 16


def split(first, second, stair):
    """A middle saying, a stair that the first part gives it, and one that it gives the second part."""
    book = Book()
    ours = book.lists_of(first[LEFT], first[RIGHT])
    # What stands on both parts counts to the first.
    theirs = tuple([bits & ~others for bits, others in zip(book.lists_of(second[LEFT], second[RIGHT]), ours)])
    saying, one, other = _split(book, pruned(book, stair), (ours, theirs))
    if not is_saying(saying):
        return _split_anew(book, saying, (ours, theirs), 2 * bound_of(stair))
    with_middle = _with_middle(book, saying, (ours, theirs))
    return saying, fitted(book, one, with_middle[OURS]), fitted(book, other, with_middle[THEIRS])


def _with_middle(book, saying, parts):
    """The lists of the first part that is to give the middle, and of the second that the middle is to help."""
    ours, theirs = parts
    bit = 1 << book.number(saying)
    return (ours[LEFT], ours[RIGHT] | bit), (theirs[LEFT] | bit, theirs[RIGHT])


def _split_anew(book, saying, parts, most):
    """What is told where a middle is too great: one of the same table that isn't, where there are stairs for it."""
    names = names_of(saying)
    if len(names) > MOST_BY_TABLE:
        raise TooGreat(MOST_PARTS)
    shorter = saying_of_table(table(saying, names), names)
    if not is_saying(shorter):
        raise TooGreat(MOST_PARTS)
    try:
        one, other = [proved(book, lists, most)[1] for lists in _with_middle(book, shorter, parts)]
    except TooGreat:
        raise TooGreat(MOST_PARTS)
    return shorter, one, other


def _split(book, stair, parts):
    """A middle with its two stairs, in which alike sayings may still count as several."""
    waiting = [(stair, parts)]
    places = []
    while len(places) < len(waiting):
        part, held = waiting[len(places)]
        owner, above = _above(book, part, held)
        places.append((part, held, owner, [len(waiting) + place for place in range(len(above))]))
        waiting.extend(above)
    told = {}
    for number in reversed(range(len(places))):
        part, held, owner, above = places[number]
        if above:
            told[number] = _split_step(part, owner, [told[other] for other in above])
        else:
            told[number] = _split_shut(book, part, held)
    return told[0]


def _above(book, stair, parts):
    """The part whose saying is taken apart, and the stairs above, each with its parts."""
    if stair[0] == "shut":
        return None, []
    side, number = SIDES.index(stair[0]), book.number(stair[1])
    owner = OURS if parts[OURS][side] >> number & 1 else THEIRS
    told = []
    for part, lists in zip(stair[2], book.above(parts[owner], side, number)):
        told.append((part, (lists, parts[THEIRS]) if owner == OURS else (parts[OURS], lists)))
    return owner, told


def _split_shut(book, stair, parts):
    """The middle, with its two stairs, where a stair is shut."""
    saying = stair[1]
    number = book.number(saying)
    if book.shutting(parts[OURS]) >> number & 1:
        return NO, stair, ("shut", NO)
    if book.shutting(parts[THEIRS]) >> number & 1:
        return YES, ("shut", YES), stair
    if parts[OURS][LEFT] >> number & 1:
        return saying, stair, stair
    denial = ("not", saying)
    return denial, ("right", denial, (stair,)), ("left", denial, (stair,))


def _split_step(stair, owner, told):
    """The middle, with its two stairs, of a step on a saying of this part, of what is told of the stairs above."""
    # Of the first part's saying some of the middles above has to hold, of the second's all of them.
    settling, idle, kind = (YES, NO, "or") if owner == OURS else (NO, YES, "and")
    own = (stair[0], stair[1], tuple([row[1 + owner] for row in told]))
    for row in told:
        if row[0] == settling:
            return _ordered(owner, settling, ("shut", settling), row[2 - owner])
    rows = [row for row in told if row[0] != idle] or told
    middle, other = rows[0][0], rows[0][2 - owner]
    if len(rows) == 1 or middle == rows[1][0]:
        return _ordered(owner, middle, own, other)
    both = (kind, middle, rows[1][0])
    words = ("right", "left") if owner == OURS else ("left", "right")
    return _ordered(owner, both, (words[0], both, (own,)), (words[1], both, (other, rows[1][2 - owner])))


def _ordered(owner, middle, own, other):
    """The middle, the first part's stair and the second's, of the owner's own and the other one."""
    return (middle, own, other) if owner == OURS else (middle, other, own)
