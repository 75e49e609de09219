"""The search: a row in which all clauses are true, or a Chain of the empty clause."""

from middlesay.building import Building
from middlesay.errors import TooGreat
from middlesay.fixing import Fixing
from middlesay.literals import denied
from middlesay.masks import names_in


def search(clauses, *, order=(), most=5000):
    """("row", row) of all names in which all clauses are true, or ("chain", Chain) of the empty clause of them."""
    return Search(clauses, order, most).told()


class Search:
    """Names are asked one within the other; what was false of one answer is a clause that fixes the other one."""

    def __init__(self, clauses, order, most):
        self._clauses = list(clauses)
        self._names = names_in(clauses)
        known = {name: True for name in self._names}
        self._order = [name for name in order if name in known]
        self._most = most
        self._asked = 0
        self._building = Building()
        self._derived = []
        self._fixing = Fixing(self._names)
        for clause in self._clauses:
            self._fixing.put(clause)

    def told(self):
        """What search tells."""
        count = len(self._clauses)
        clash = self._fixing.begin(count)
        if clash is None:
            clash = self._fixing.run(count)
        while True:
            if clash is not None:
                step = self._turn_back(clash)
                if step is not None:
                    return ("chain", self._building.chain_to(step))
            else:
                literal = self._next_asked()
                if literal is None:
                    return ("row", {name: self._fixing.is_true(name) for name in self._names})
                self._ask(literal)
            clash = self._fixing.run(count)

    def _ask(self, literal):
        self._asked += 1
        if self._asked > self._most:
            raise TooGreat(self._most)
        self._fixing.fix(literal, None)

    def _turn_back(self, clash):
        """Go back to the last answer by which a clause is false, and turn it; the empty clause's step if there is none.

        What was fixed behind that answer is met away on the way back; what was fixed ahead of it stays in the clause,
        and is met away when that is taken back, once for all that was asked behind it.
        """
        step = self._step_of(clash)
        while (fixed := self._fixing.take_back()) is not None:
            literal, reason = fixed
            if denied(literal) not in self._building.clause(step):
                continue
            if reason is None:
                self._derived.append(step)
                self._fixing.fix(denied(literal), len(self._clauses) + len(self._derived) - 1)
                return None
            step = self._building.meet_on(literal, self._step_of(reason), step)
        return step

    def _step_of(self, number):
        """The step of a clause, or of one that was told on the way."""
        if number < len(self._clauses):
            return self._building.give_once(self._clauses[number])
        return self._derived[number - len(self._clauses)]

    def _next_asked(self):
        """The literal to be taken as true next; None where all clauses are true already."""
        for name in self._order:
            if not self._fixing.is_fixed(name):
                return (name, True)
        return _most_telling(self._fixing.open_clauses())


def _most_telling(clauses):
    """The literal whose name stands most often in the shortest of these clauses; None where there is none."""
    if not clauses:
        return None
    least = min([len(clause) for clause in clauses])
    counts = {}
    for clause in clauses:
        if len(clause) == least:
            for literal in clause:
                counts[literal] = counts.get(literal, 0) + 1
    return max(sorted(counts), key=lambda literal: _weight(counts, literal))


def _weight(counts, literal):
    """How much there is to be told by asking a literal's name."""
    count = counts[literal]
    other = counts.get(denied(literal), 0)
    return ((count + 1) * (other + 1), count)
