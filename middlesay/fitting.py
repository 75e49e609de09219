"""Stairs fitted to lists in which sayings are taken apart already, and cuts on names taken out by that."""

from middlesay.stairs import LEFT, RIGHT, SIDES, grown, stairs_within

# For either list the sayings, by bits, that were taken apart on the way to the first stair above, and to the second.
NONE_TAKEN = ((0, 0), (0, 0))


def fitted(book, stair, lists):
    """A stair of the lists, of one that would be theirs if alike sayings were several; its bound is no greater."""
    fitting = Fitting(book, None, None)
    return grown((stair, lists, NONE_TAKEN), lambda place: fitting.told_at(place), None)


def without_cut(book, lists, number, stairs, most):
    """The stair of the lists without the cut on a name, of the two above it, which have none.

    It is one of the two with the other one in the place of each shut by the name: so its bound is no greater than the
    product of theirs.
    """
    first, second = stairs
    uses, other_uses = [_count_shut(stair, book.saying(number)) for stair in stairs]
    if lists[RIGHT] >> number & 1 or not uses:
        return first
    if lists[LEFT] >> number & 1 or not other_uses:
        return second
    size, other_size = [len(stairs_within(stair)) for stair in stairs]
    walked, spare = first, second
    if other_size + other_uses * size < size + uses * other_size:
        walked, spare = second, first
    fitting = Fitting(book, number, spare)
    return grown((walked, lists, NONE_TAKEN), lambda place: fitting.told_at(place), most)


def _count_shut(stair, saying):
    """How often a stair is shut by this saying."""
    return len([part for part, _ in stairs_within(stair) if part == ("shut", saying)])


class Fitting:
    """Steps of stairs as they go on in lists in which some sayings are there by their parts alone.

    A place is a stair, the lists, and what was taken apart on the way. Where it is shut by the name of this number, but
    the lists lack that on one side, the spare stair takes its turn, which has it on the other one.
    """

    def __init__(self, book, number, spare):
        self._book = book
        self._number = number
        self._spare = spare

    def told_at(self, place):
        """The step's word and saying at a place, and the places above."""
        while True:
            told = self._step_at(place)
            if told is not None:
                return told
            place = self._instead_of(place)

    def _step_at(self, place):
        """What is told at a place; None where its stair can't go on there."""
        stair, lists, _ = place
        shutting = self._book.shutting(lists)
        least = (shutting & -shutting).bit_length() - 1
        # No stair is less than one that a name shuts.
        if shutting and self._book.size(least) == 1:
            return ("shut", self._book.saying(least), [])
        number = self._book.found(stair[1])
        if stair[0] == "shut" and shutting >> number & 1:
            return ("shut", stair[1], [])
        if stair[0] == "shut" and number == self._number:
            return None
        side = _side_with(lists, number) if stair[0] == "shut" else SIDES.index(stair[0])
        if side is None or not lists[side] >> number & 1:
            return None
        return (SIDES[side], stair[1], self._above(place, side, number))

    def _instead_of(self, place):
        """The place with the stair that goes on in the place of one that can't."""
        stair, lists, taken = place
        number = self._book.found(stair[1])
        if stair[0] != "shut":
            branch = 0 if taken[SIDES.index(stair[0])][0] >> number & 1 else 1
            return (stair[2][branch], lists, taken)
        if number == self._number:
            return (self._spare, lists, taken)
        return (self._shut_by_part(number, lists, taken), lists, taken)

    def _above(self, place, side, number):
        """The places above the one where this saying is taken apart."""
        stair, lists, taken = place
        told = []
        for branch, put in enumerate(self._book.above(lists, side, number)):
            now = _taken_too(taken, side, branch, number)
            part = stair[2][branch] if len(stair) == 3 else self._shut_by_part(number, put, now)
            told.append((part, put, now))
        return told

    def _shut_by_part(self, number, lists, taken):
        """The stair that is shut by a saying's least part that either list has, if by its own parts alone."""
        left, right = [lists[side] | taken[side][0] | taken[side][1] for side in (LEFT, RIGHT)]
        there = [part for part in self._book.parts(number) if (left & right) >> part & 1]
        least = min(there, key=lambda part: self._book.size(part))
        return ("shut", self._book.saying(least))


def _side_with(lists, number):
    """The list that has this saying; None where neither has."""
    for side in (LEFT, RIGHT):
        if lists[side] >> number & 1:
            return side
    return None


def _taken_too(taken, side, branch, number):
    """What was taken apart, with this saying of a list, towards this one of the stairs above."""
    rows = [list(row) for row in taken]
    rows[side][branch] |= 1 << number
    return tuple([tuple(row) for row in rows])
