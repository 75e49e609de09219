"""Chains of steps, and the judge of what they come to."""

from middlesay.errors import NoStep
from middlesay.literals import clause_of, is_clause, is_part
from middlesay.steptexts import show_clause


class Chain:
    """Steps, each a given clause or a meeting of two steps ahead of it."""

    def __init__(self, steps):
        if not isinstance(steps, (list, tuple)) or not steps:
            raise NoStep(0)
        clauses = []
        for number, step in enumerate(steps):
            clause = _clause_of_step(step, clauses)
            if clause is None:
                raise NoStep(number)
            clauses.append(clause)
        self._steps = tuple(steps)
        self._clauses = tuple(clauses)

    def steps(self):
        """The steps, in their order."""
        return list(self._steps)

    def clauses(self):
        """The clause of each step."""
        return list(self._clauses)

    def last(self):
        """The last step's clause."""
        return self._clauses[-1]

    def givens(self):
        """The given clauses, unlike ones, sorted."""
        return sorted({step[1] for step in self._steps if step[0] == "given"})

    def __len__(self):
        return len(self._steps)

    def __eq__(self, other):
        return isinstance(other, Chain) and self._steps == other._steps

    def __str__(self):
        return "\n".join([_show_step(step) for step in self._steps])


def _clause_of_step(step, ahead):
    """The clause of a step behind steps of these clauses; None where it is no step there."""
    if not isinstance(step, tuple):
        return None
    if len(step) == 2 and step[0] == "given" and is_clause(step[1]):
        return step[1]
    if len(step) == 4 and step[0] == "met" and _is_below(step[1], len(ahead)) and _is_below(step[2], len(ahead)):
        return meeting(ahead[step[1]], ahead[step[2]], step[3])
    return None


def _is_below(thing, count):
    """Whether anything is a whole number from 0 to below the count."""
    return isinstance(thing, int) and not isinstance(thing, bool) and 0 <= thing < count


def meeting(first, second, name):
    """The clause of a meeting of two clauses on a name; None where they don't meet so."""
    if (name, True) not in first or (name, False) not in second:
        return None
    return clause_of([literal for literal in first + second if literal[0] != name])


def _show_step(step):
    if step[0] == "given":
        return f"given {show_clause(step[1])}"
    return f"met {step[1]} {step[2]} {step[3]}"


def comes_to(chain, clauses, clause):
    """Whether a Chain comes to a clause of a list of clauses."""
    known = {held: True for held in clauses}
    return all([given in known for given in chain.givens()]) and is_part(chain.last(), clause)
