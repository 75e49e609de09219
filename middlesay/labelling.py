"""Marks of literals: of which side they are, and which a labelling gives those of shared names."""

from middlesay.errors import NoMark
from middlesay.masks import names_in

MARKS = ("other", "both", "one")
# Of unlike marks comes "both": so each is told by bits, and two come to the bits of both.
BITS = {"one": 1, "other": 2, "both": 3}
MARKS_BY_BITS = (None, "one", "other", "both")


class Labelling:
    """The mark of each literal of each step's clause."""

    def __init__(self, chain, one, way, marks):
        self._steps = chain.steps()
        self._clauses = chain.clauses()
        self._bits = {name: 1 << place for place, name in enumerate(names_in(self._clauses))}
        known = {clause: True for clause in one}
        self._ours = [clause in known for clause in self._clauses]
        self._sides = self._sides_of_names()
        _refuse_wrong(self._spots(), way, marks)
        # For each step the names, as bits, whose marks have the bit of one, and of other.
        self._with_one = []
        self._with_other = []
        for number in range(len(self._steps)):
            self._mark_step(number, way, marks)

    def is_ours(self, number):
        """Whether a given step is of the one side."""
        return self._ours[number]

    def of_step(self, number):
        """The marks of a step's clause by its names."""
        return {name: self._mark_at(name, number) for name, _ in self._clauses[number]}

    def of_meeting(self, step):
        """The mark of a meeting."""
        _, i, j, name = step
        marks = BITS[self._mark_at(name, i)] | BITS[self._mark_at(name, j)]
        return MARKS_BY_BITS[marks]

    def _sides_of_names(self):
        """The bits of the mark that each name has where it isn't shared; of shared ones those of both."""
        sides = {}
        for step, clause, ours in zip(self._steps, self._clauses, self._ours):
            if step[0] == "given":
                for name, _ in clause:
                    sides[name] = sides.get(name, 0) | BITS["one" if ours else "other"]
        return sides

    def _spots(self):
        """Where a given step has a literal of a shared name."""
        spots = {}
        for number, step in enumerate(self._steps):
            if step[0] == "given":
                for name, _ in step[1]:
                    if self._sides[name] == BITS["both"]:
                        spots[(number, name)] = True
        return spots

    def _mark_step(self, number, way, marks):
        """Put the marks of a step's clause behind those of the steps ahead."""
        step = self._steps[number]
        with_one, with_other = 0, 0
        if step[0] == "met":
            _, i, j, name = step
            others = ~self._bits[name]
            with_one = (self._with_one[i] | self._with_one[j]) & others
            with_other = (self._with_other[i] | self._with_other[j]) & others
        else:
            for name, _ in step[1]:
                mark = self._sides[name]
                if mark == BITS["both"]:
                    mark = BITS[marks.get((number, name), way)]
                with_one |= self._bits[name] if mark & BITS["one"] else 0
                with_other |= self._bits[name] if mark & BITS["other"] else 0
        self._with_one.append(with_one)
        self._with_other.append(with_other)

    def _mark_at(self, name, number):
        """The mark of a name that stands in a step's clause."""
        bit = self._bits[name]
        has_one = self._with_one[number] & bit
        has_other = self._with_other[number] & bit
        if has_one and has_other:
            return "both"
        return "one" if has_one else "other"


def _refuse_wrong(spots, way, marks):
    """Refuse the least (step, name) that is no spot, or whose mark is none."""
    wrong = [spot for spot in marks if spot not in spots or marks[spot] not in MARKS]
    if way not in MARKS:
        wrong.extend([spot for spot in spots if spot not in marks])
    if wrong:
        raise NoMark(min(wrong))
