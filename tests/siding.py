"""Sides and labellings of Chains that several tests go through."""

from random import Random

from middlesay.middles import Middle
from tests.chaining import chain, clauses, some_clashes

MARKS = ("other", "both", "one")

# a is of the one side, c of the other, b is shared.
PLAIN = chain("a, -a b, = 0 1 a, -b c, = 2 3 b, -c, = 4 5 c")
ONE, OTHER = clauses("a, -a b"), clauses("-b c, -c")


def spots_of(told, one):
    """Where given steps have literals of shared names."""
    given = [(number, step[1]) for number, step in enumerate(told.steps()) if step[0] == "given"]
    ours = {name for _, row in given if row in one for name, _ in row}
    theirs = {name for _, row in given if row not in one for name, _ in row}
    return sorted((number, name) for number, row in given for name, _ in row if name in ours & theirs)


def some_sides():
    """Chains of chance with sides, some clauses in both, and some labelling."""
    for number, told in enumerate(some_clashes()):
        chance = Random(number)
        rows = told.givens()
        one = [row for row in rows if chance.random() < 0.5]
        other = [row for row in rows if row not in one or chance.random() < 0.15]
        spots = spots_of(told, one)
        marks = {spot: chance.choice(MARKS) for spot in spots if chance.random() < 0.7}
        yield told, one, other, chance.choice(MARKS), marks


def some_middles():
    for told, one, other, way, marks in some_sides():
        yield Middle(told, one, other, way=way, marks=marks), told, one, other
