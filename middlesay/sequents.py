"""Sequents: which stairs are theirs, a stair without cut or a row, and stairs rid of their cuts."""

from middlesay.errors import TooGreat
from middlesay.fitting import without_cut
from middlesay.proving import proved
from middlesay.sayings import is_saying
from middlesay.shaping import parts_in
from middlesay.stairs import SIDES, Book, stairs_above, stairs_within


def is_stair(left, right, thing):
    """Whether anything is a stair of the sequent of these two lists."""
    book = Book()
    waiting = [(thing, book.lists_of(left, right))]
    while waiting:
        above = _checked(book, waiting.pop())
        if above is None:
            return False
        waiting.extend(above)
    return True


def _checked(book, place):
    """What is to be a stair above a step, each with its lists; None where it is no step of the lists."""
    thing, lists = place
    if not isinstance(thing, tuple) or len(thing) not in (2, 3):
        return None
    number = book.found(thing[1])
    if len(thing) == 2:
        is_shut = thing[0] == "shut" and number is not None and book.shutting(lists) >> number & 1
        return [] if is_shut else None
    word, saying, stairs = thing
    above = []
    if word == "cut" and is_saying(saying):
        above = book.above_cut(lists, book.number(saying))
    elif word in SIDES and number is not None and lists[SIDES.index(word)] >> number & 1:
        above = book.above(lists, SIDES.index(word), number)
    # What can't be taken apart has no stairs above, and no step is made of none.
    if not above or not isinstance(stairs, tuple) or len(stairs) != len(above):
        return None
    return list(zip(stairs, above))


def steps_in(stair):
    """How many shut, left, right and cut a stair has."""
    return len(stairs_within(stair))


def bound_of(stair):
    """The bound of a stair: one without its cuts, where these are on names alone, is no greater."""
    bounds = {}
    places = stairs_within(stair)
    for number in reversed(range(len(places))):
        part, first = places[number]
        above = [bounds[first + place] for place in range(len(stairs_above(part)))]
        if part[0] == "shut":
            bounds[number] = parts_in(part[1])
        elif part[0] == "cut":
            bounds[number] = above[0] * above[1]
        else:
            bounds[number] = 1 + sum(above)
    return bounds[0]


def sequent(left, right, *, most=4000):
    """("stair", stair) without cut, or ("row", row) of all names in which the left hold and none of the right."""
    book = Book()
    return proved(book, book.lists_of(left, right), most)


def uncut(left, right, stair, *, most=4000):
    """The stair of the sequent of these two lists without cut, of one that may have some."""
    book = Book()
    places = _places_of_cuts(book, stair, book.lists_of(left, right))
    told, sizes = {}, {}
    for number in reversed(range(len(places))):
        part, lists, above = places[number]
        stairs = tuple([told[other] for other in above])
        if part[0] == "cut":
            told[number] = _without_one_cut(book, lists, part[1], stairs, most)
            sizes[number] = steps_in(told[number])
        else:
            told[number] = (part[0], part[1], stairs) if stairs else part
            sizes[number] = 1 + sum([sizes[other] for other in above])
        if sizes[number] > most:
            raise TooGreat(most)
    return told[0]


def _places_of_cuts(book, stair, lists):
    """A stair and those above it that are to be rid of cuts, each with its lists and the numbers of those above."""
    waiting = [(stair, lists)]
    places = []
    while len(places) < len(waiting):
        part, held = waiting[len(places)]
        above = _above_with_lists(book, part, held)
        places.append((part, held, [len(waiting) + place for place in range(len(above))]))
        waiting.extend(above)
    return places


def _above_with_lists(book, stair, lists):
    """The stairs just above a step, each with its lists; none above a cut on anything but a name."""
    if stair[0] == "shut":
        return []
    number = book.number(stair[1])
    if stair[0] != "cut":
        return list(zip(stair[2], book.above(lists, SIDES.index(stair[0]), number)))
    return list(zip(stair[2], book.above_cut(lists, number))) if stair[1][0] == "name" else []


def _without_one_cut(book, lists, saying, stairs, most):
    """The stair of these lists in the place of a cut, of the two above it, where they are told and have no cut."""
    if stairs:
        return without_cut(book, lists, book.number(saying), stairs, most)
    # A saying that is cut on could be taken apart in both stairs, but to tell it anew makes it less great.
    _, told = proved(book, lists, most)
    return told
