"""Stairs without cut rid of the steps that they don't need."""

from middlesay.stairs import LEFT, NO, RIGHT, SIDES, YES, stairs_above, stairs_within


def pruned(book, stair):
    """The stair without those steps of which some stair above doesn't need what they put in: that one is enough."""
    places = stairs_within(stair)
    told = {}
    for number in reversed(range(len(places))):
        part, first = places[number]
        above = [told[first + place] for place in range(len(stairs_above(part)))]
        told[number] = _pruned_step(book, part, above) if above else (part, _needed_to_shut(book, part[1]))
    return told[0][0]


def _needed_to_shut(book, saying):
    """The sayings, by bits for either list, that are needed where a stair is shut."""
    bit = 1 << book.number(saying)
    return (0 if saying == YES else bit, 0 if saying == NO else bit)


def _pruned_step(book, stair, above):
    """The stair with its stairs above pruned, or one of these; and what it needs of either list."""
    side, number = SIDES.index(stair[0]), book.number(stair[1])
    needed = [0, 0]
    needed[side] = 1 << number
    for told, put_in in zip(above, book.put_in(side, number)):
        rest = list(told[1])
        for other_side, part in put_in:
            rest[other_side] &= ~(1 << part)
        if rest == list(told[1]):
            return told
        needed[LEFT] |= rest[LEFT]
        needed[RIGHT] |= rest[RIGHT]
    return (stair[0], stair[1], tuple([told[0] for told in above])), tuple(needed)
