"""Middles of Chains: what follows from the one side, clashes with the other, and has shared names alone."""

from middlesay.chains import comes_to
from middlesay.errors import NoChain, NoName, TooGreat
from middlesay.knots import names_of_knots, own_saying, table_of_knots
from middlesay.labelling import Labelling
from middlesay.literals import clause_of, denied
from middlesay.shaping import parts_in
from middlesay.words import is_word, refuse_lacking

KINDS = {"one": "or", "other": "and"}


class Middle:
    """The middle of a Chain of the empty clause, of two sides and a labelling: a knot for each step."""

    def __init__(self, chain, one, other, *, way="both", marks=None):
        if not comes_to(chain, list(one) + list(other), ()):
            raise NoChain("it doesn't come to the empty clause of both lists")
        self.chain = chain
        self._labelling = Labelling(chain, one, way, {} if marks is None else marks)
        self._knots = [_knot_of(self._labelling, number, step) for number, step in enumerate(chain.steps())]

    def knots(self):
        """The knots, one for each step, by the same number."""
        return list(self._knots)

    def names(self):
        """The names that stand in the knots, sorted."""
        return names_of_knots(self._knots)

    def table(self, names):
        """The whole number whose bit r tells whether the middle holds in row r of the names."""
        refuse_lacking(self.names(), names)
        return table_of_knots(self._knots, names)

    def marks_of(self, step):
        """The marks of a step's clause, by its names."""
        return self._labelling.of_step(step)

    def saying(self, *, most=400):
        """A saying of the middle's names alone that is the same."""
        for name in self.names():
            if not is_word(name):
                raise NoName(name)
        saying = own_saying(self._knots)
        if saying is None or parts_in(saying) > most:
            raise TooGreat(most)
        return saying

    def clauses(self, letter="m"):
        """Clauses that are true in just one way for each row, in which each knot's name is what the knot is."""
        return [clause for number in range(len(self._knots)) for clause in self._clauses_of_knot(number, letter)]

    def __len__(self):
        return len(self._knots)

    def _clauses_of_knot(self, number, letter):
        """The clauses that fix the name of one knot."""
        knot = self._knots[number]
        told = (f"{letter}{number}", True)
        if knot[0] in ("any", "none"):
            # None of them is the denial of any, so its clauses are those of any for the name denied.
            whole = told if knot[0] == "any" else denied(told)
            rows = [[denied(whole)] + list(knot[1])] + [[whole, denied(literal)] for literal in knot[1]]
        else:
            i, j = (f"{letter}{knot[-2]}", True), (f"{letter}{knot[-1]}", True)
            rows = _fixing_rows(knot, told, i, j)
        return [clause_of(row) for row in rows]


def _knot_of(labelling, number, step):
    """The knot of a step."""
    if step[0] == "met":
        _, i, j, name = step
        mark = labelling.of_meeting(step)
        return ("pick", name, i, j) if mark == "both" else (KINDS[mark], i, j)
    ours = labelling.is_ours(number)
    marks = labelling.of_step(number)
    mark = "other" if ours else "one"
    return ("any" if ours else "none", tuple([literal for literal in step[1] if marks[literal[0]] == mark]))


def _fixing_rows(knot, told, i, j):
    """Lists of literals, some true in each of them just where the name told is what the knot is of two others."""
    if knot[0] == "or":
        return [[denied(told), i, j], [told, denied(i)], [told, denied(j)]]
    if knot[0] == "and":
        return [[told, denied(i), denied(j)], [denied(told), i], [denied(told), j]]
    name = (knot[1], True)
    return [
        [told, name, denied(i)], [denied(told), name, i],
        [told, denied(name), denied(j)], [denied(told), denied(name), j],
    ]
