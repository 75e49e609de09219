"""Papers of middles: Chains that one follows from the one side, clashes with the other, and gives another one."""

from middlesay.building import Building
from middlesay.errors import NoOrder
from middlesay.labelling import MARKS
from middlesay.literals import clause_of, denied


def papers(middle):
    """The Chain of the one side's and the knots' clauses to the last knot's name; the other side's to its denial."""
    return (_paper(middle, True), _paper(middle, False))


def _paper(middle, yes):
    """The Chain from the one side that the knots hold, or from the other side that they don't.

    For each step it comes to the knot, or its denial, or one of the literals of the step's clause that aren't of the
    other side alone, or of the one.
    """
    building = Building()
    knots = middle.knots()
    places = []
    for number, step in enumerate(middle.chain.steps()):
        knot = Named(building, "m", number, knots[number])
        if step[0] == "given" and (knot.kind == "any") == yes:
            places.append(knot.put_for(building.give_once(step[1]), yes))
        elif step[0] == "given":
            places.append(knot.long_row(yes))
        else:
            places.append(_paper_of_meeting(building, knot, step, places, yes))
    return building.chain_to(places[-1])


def _paper_of_meeting(building, knot, step, places, yes):
    """The step for a meeting, of those for its two steps."""
    _, i, j, name = step
    if knot.kind == ("and" if yes else "or"):
        return knot.both_for(places[i], places[j], yes)
    if knot.kind == "pick":
        return building.meet(knot.one_for(places[i], i, yes), knot.one_for(places[j], j, yes), name)
    both = building.meet(places[i], places[j], name)
    return knot.one_for(knot.one_for(both, i, yes), j, yes)


def stronger(middle, other):
    """The Chain of both's knots' clauses that the first one's last knot gives the second's."""
    _refuse_above(middle, other)
    building = Building()
    knots, other_knots = middle.knots(), other.knots()
    places = []
    for number, step in enumerate(middle.chain.steps()):
        first = Named(building, "m", number, knots[number])
        second = Named(building, "n", number, other_knots[number])
        if step[0] == "met":
            places.append(_gives_at_meeting(building, first, second, step, places))
        elif first.kind == "any":
            places.append(second.put_for(first.long_row(False), True))
        else:
            places.append(first.put_for(second.long_row(True), False))
    return building.chain_to(places[-1])


def _gives_at_meeting(building, first, second, step, places):
    """The step by which a meeting's knot gives the other middle's, of those for its two steps."""
    _, i, j, name = step
    if first.kind == second.kind == "or":
        return first.both_for(second.one_for(places[i], i, True), second.one_for(places[j], j, True), False)
    if first.kind == second.kind == "and":
        return second.both_for(first.one_for(places[i], i, False), first.one_for(places[j], j, False), True)
    halves = [second.one_for(first.one_for(places[ahead], ahead, False), ahead, True) for ahead in (i, j)]
    return building.meet(halves[0], halves[1], name)


def _refuse_above(middle, other):
    """Refuse the least (step, name) whose mark in the first is above its mark in the second."""
    for number, step in enumerate(middle.chain.steps()):
        if step[0] == "given":
            marks, others = middle.marks_of(number), other.marks_of(number)
            for name in sorted(marks):
                if MARKS.index(marks[name]) > MARKS.index(others[name]):
                    raise NoOrder((number, name))


class Named:
    """A knot with its name, and the steps that are put behind others by its clauses."""

    def __init__(self, building, letter, number, knot):
        self.kind = knot[0]
        self._building = building
        self._letter = letter
        self._literal = (f"{letter}{number}", True)
        self._knot = knot

    def long_row(self, yes):
        """The clause that a given step's knot holds, or doesn't, or what it is told by lets it be otherwise."""
        return self._give([self._whole(yes)] + list(self._knot[1]))

    def put_for(self, place, yes):
        """A step with this given step's knot, or its denial, in the place of the literals that give it."""
        for literal in self._knot[1]:
            short = self._give([self._whole(yes), denied(literal)])
            place = self._building.meet_on(literal, place, short)
        return place

    def one_for(self, place, ahead, yes):
        """A step with a meeting's knot, or its denial, in the place of that of one of the two ahead."""
        literal = (f"{self._letter}{ahead}", yes)
        row = [self._whole(yes), denied(literal)]
        if self.kind == "pick":
            # The first one counts where the name isn't true: so it stands beside, and denied for the second.
            row.append((self._knot[1], ahead == self._knot[2]))
        return self._building.meet_on(literal, place, self._give(row))

    def both_for(self, place, other, yes):
        """A step with a meeting's knot, or its denial, in the place of those of both ahead, of two steps."""
        first, second = [(f"{self._letter}{ahead}", yes) for ahead in self._knot[1:]]
        row = self._give([self._whole(yes), denied(first), denied(second)])
        met = self._building.meet_on(first, place, row)
        return self._building.meet_on(second, other, met)

    def _whole(self, yes):
        return self._literal if yes else denied(self._literal)

    def _give(self, literals):
        return self._building.give_once(clause_of(literals))
