"""Middles of Chains: what follows from the one side, clashes with the other, and has shared names alone."""

from middlesay.chains import comes_to
from middlesay.errors import NoChain, NoName, TooGreat
from middlesay.labelling import Labelling
from middlesay.literals import clause_of, denied
from middlesay.sayings import MOST_PARTS
from middlesay.shaping import parts_in, saying_of_knots, saying_of_table
from middlesay.tables import column
from middlesay.words import is_word, refuse_lacking

KINDS = {"one": "or", "other": "and"}
# Of so many names each table has a saying that isn't too great; of more only some have.
ALWAYS_BY_TABLE = 7
MOST_BY_TABLE = 12


class Middle:
    """The middle of a Chain of the empty clause, of two sides and a labelling: a knot for each step."""

    def __init__(self, chain, one, other, *, way="both", marks=None):
        if not comes_to(chain, list(one) + list(other), ()):
            raise NoChain("it doesn't come to the empty clause of both lists")
        self.chain = chain
        self._labelling = Labelling(chain, one, way, {} if marks is None else marks)
        self._knots = [_knot_of(self._labelling, number, step) for number, step in enumerate(chain.steps())]

    def knots(self):
        """The knots, one for each step, by the same number."""
        return list(self._knots)

    def names(self):
        """The names that stand in the knots, sorted."""
        return sorted({name for knot in self._knots for name in _names_of_knot(knot)})

    def table(self, names):
        """The whole number whose bit r tells whether the middle holds in row r of the names."""
        refuse_lacking(self.names(), names)
        full = (1 << (1 << len(names))) - 1
        columns = {name: column(place, full) for place, name in enumerate(names)}
        rows = []
        for knot in self._knots:
            rows.append(_rows_of_knot(knot, rows, columns, full))
        return rows[-1]

    def marks_of(self, step):
        """The marks of a step's clause, by its names."""
        return self._labelling.of_step(step)

    def saying(self, *, most=400):
        """A saying of the middle's names alone that is the same."""
        names = self.names()
        for name in names:
            if not is_word(name):
                raise NoName(name)
        saying = self._own_saying(names)
        if saying is None or parts_in(saying) > most:
            raise TooGreat(most)
        return saying

    def clauses(self, letter="m"):
        """Clauses that are true in just one way for each row, in which each knot's name is what the knot is."""
        return [clause for number in range(len(self._knots)) for clause in self._clauses_of_knot(number, letter)]

    def __len__(self):
        return len(self._knots)

    def _own_saying(self, names):
        """The program's saying; None where it has none."""
        saying = None
        if len(names) <= MOST_BY_TABLE:
            saying = saying_of_table(self.table(names), names)
        if len(names) <= ALWAYS_BY_TABLE or (saying is not None and parts_in(saying) <= MOST_PARTS):
            return saying
        return saying_of_knots(self._knots)

    def _clauses_of_knot(self, number, letter):
        """The clauses that fix the name of one knot."""
        knot = self._knots[number]
        told = (f"{letter}{number}", True)
        if knot[0] in ("any", "none"):
            # None of them is the denial of any, so its clauses are those of any for the name denied.
            whole = told if knot[0] == "any" else denied(told)
            rows = [[denied(whole)] + list(knot[1])] + [[whole, denied(literal)] for literal in knot[1]]
        else:
            i, j = (f"{letter}{knot[-2]}", True), (f"{letter}{knot[-1]}", True)
            rows = _fixing_rows(knot, told, i, j)
        return [clause_of(row) for row in rows]


def _knot_of(labelling, number, step):
    """The knot of a step."""
    if step[0] == "met":
        _, i, j, name = step
        mark = labelling.of_meeting(step)
        return ("pick", name, i, j) if mark == "both" else (KINDS[mark], i, j)
    ours = labelling.is_ours(number)
    marks = labelling.of_step(number)
    mark = "other" if ours else "one"
    return ("any" if ours else "none", tuple([literal for literal in step[1] if marks[literal[0]] == mark]))


def _names_of_knot(knot):
    """The names that stand in a knot."""
    if knot[0] == "pick":
        return [knot[1]]
    return [name for name, _ in knot[1]] if knot[0] in ("any", "none") else []


def _rows_of_knot(knot, rows, columns, full):
    """The rows, as bits, in which a knot holds, of those of the knots ahead."""
    if knot[0] in ("any", "none"):
        some = 0
        for name, yes in knot[1]:
            some |= columns[name] if yes else full ^ columns[name]
        return some if knot[0] == "any" else full ^ some
    i, j = rows[knot[-2]], rows[knot[-1]]
    if knot[0] == "or":
        return i | j
    if knot[0] == "and":
        return i & j
    return (columns[knot[1]] & j) | ((full ^ columns[knot[1]]) & i)


def _fixing_rows(knot, told, i, j):
    """Lists of literals, some true in each of them just where the name told is what the knot is of two others."""
    if knot[0] == "or":
        return [[denied(told), i, j], [told, denied(i)], [told, denied(j)]]
    if knot[0] == "and":
        return [[told, denied(i), denied(j)], [denied(told), i], [denied(told), j]]
    name = (knot[1], True)
    return [
        [told, name, denied(i)], [denied(told), name, i],
        [told, denied(name), denied(j)], [denied(told), denied(name), j],
    ]
