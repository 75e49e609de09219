"""Chains turned into others that come to the same, or a part of it."""

from middlesay.building import Building, leaning, rebuilt, renumbered
from middlesay.chains import Chain, meeting
from middlesay.errors import NoChain
from middlesay.literals import is_part
from middlesay.masks import mask_of, masks_of, names_in


def trimmed(chain):
    """The Chain without the steps on which the last one doesn't lean."""
    return Chain(leaning(chain.steps(), len(chain) - 1))


def shared(chain):
    """The Chain in which no clause is told twice, trimmed."""
    first_with = {}
    numbers = []
    steps = []
    for step, clause in zip(chain.steps(), chain.clauses()):
        if clause not in first_with:
            first_with[clause] = len(steps)
            steps.append(renumbered(step, numbers))
        numbers.append(first_with[clause])
    return Chain(leaning(steps, numbers[-1]))


def lightened(chain):
    """The Chain without meetings whose literal is met on again, or stands in the last clause."""
    lighter = trimmed(chain)
    while taken := _needless(lighter):
        lighter = rebuilt(lighter.steps(), taken)
    return lighter


def _needless(chain):
    """For needless meetings of a trimmed Chain: the number of each, and of the step to be taken for it.

    A meeting on a name of which one literal is met on again is left out itself. So no name is met on again behind a
    step with both signs, and as the clauses come to have such literals alone, no name stands in one both ways.
    """
    steps = chain.steps()
    masks = masks_of(names_in(chain.clauses()))
    last = len(steps) - 1
    # For each step the literals that are met on again on each way to the last one, or stand in the last clause.
    again = {last: mask_of(chain.last(), masks)}
    taken = {}
    for number in reversed(range(len(steps))):
        step = steps[number]
        if step[0] == "given" or number not in again:
            continue
        _, i, j, name = step
        here, first, second = again[number], masks[(name, True)], masks[(name, False)]
        if here & first:
            taken[number] = i
            _narrow(again, i, here)
        elif here & second:
            taken[number] = j
            _narrow(again, j, here)
        else:
            _narrow(again, i, here | first)
            _narrow(again, j, here | second)
    return taken


def _narrow(table, number, literals):
    """Keep of a step's literals those that are among these."""
    table[number] = table.get(number, literals) & literals


def joined(chain, other, name):
    """The Chain of two, one behind the other, and the meeting of their last steps."""
    if meeting(chain.last(), other.last(), name) is None:
        raise NoChain("the two last clauses don't meet on this name")
    count = len(chain)
    numbers = [count + number for number in range(len(other))]
    behind = [renumbered(step, numbers) for step in other.steps()]
    return Chain(chain.steps() + behind + [("met", count - 1, numbers[-1], name)])


def put_in(chain, other):
    """The Chain with the other's last step in place of the given clauses of which it is a part."""
    if not any([is_part(other.last(), clause) for clause in chain.givens()]):
        raise NoChain("the last clause is a part of no given one")
    building = Building()
    behind = _put_behind(building, other.steps(), other.last(), None)
    places = _put_behind(building, chain.steps(), other.last(), behind[-1])
    return building.chain_to(places[-1])


def _put_behind(building, steps, clause, place):
    """Put steps behind the others, but that place for given ones with this clause if it is told; the places of all."""
    places = []
    for step in steps:
        if step[0] == "met":
            places.append(building.meet(places[step[1]], places[step[2]], step[3]))
        elif place is not None and is_part(clause, step[1]):
            places.append(place)
        else:
            places.append(building.give(step[1]))
    return places
