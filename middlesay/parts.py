"""Parts on a tree: a middle for each, and a Chain by which those beneath a part and the part itself give its own."""

from middlesay.building import Building
from middlesay.errors import NoChain, NoTree, NoWay
from middlesay.labelling import MARKS
from middlesay.middles import Middle
from middlesay.papers import Named
from middlesay.words import letters_of


class Parts:
    """Lists of clauses hung on a tree, and a Chain of the empty clause of all of them."""

    def __init__(self, parts, up, chain, *, way="other"):
        if not _is_tree(up, len(parts)):
            raise NoTree("up doesn't tell a lesser number for each part but the first")
        self._beneath = [[part for part in range(len(up)) if up[part] == above] for above in range(len(up))]
        if not _goes(way, self._beneath):
            raise NoWay("the way is none, or goes on no tree with two beneath a part")
        self._chain = chain
        self._way = way
        self._part_of = _parts_of_givens(parts, chain)
        if chain.last() or len(self._part_of) < len(chain.givens()):
            raise NoChain("it doesn't come to the empty clause of all parts")
        self._branches = _branches(self._beneath)

    def middle(self, part):
        """The Middle of the parts at and beneath this one, as the one side, and of all others."""
        givens = self._chain.givens()
        one = [clause for clause in givens if self._part_of[clause] in self._branches[part]]
        other = [clause for clause in givens if self._part_of[clause] not in self._branches[part]]
        return Middle(self._chain, one, other, way=self._way)

    def clauses(self, part):
        """The clauses of this part's Middle, its knots named by the part's letter."""
        return self.middle(part).clauses(_letter(part))

    def paper(self, part):
        """The Chain of this part's clauses and the knots' to: one of the Middles beneath doesn't hold, or its own does.

        For each step it comes to such a clause of that step's knots, or one of the literals of the step's clause that
        aren't of other parts alone, nor of what is beneath one of those just beneath alone.
        """
        told = [part] + self._beneath[part]
        knots = {number: self.middle(number).knots() for number in told}
        building = Building()
        places = []
        for number, step in enumerate(self._chain.steps()):
            own, *beneath = [Named(building, _letter(other), number, knots[other][number]) for other in told]
            if step[0] == "given":
                is_own = self._part_of[step[1]] == part
                places.append(_at_given(building, own, beneath, step[1] if is_own else None))
            else:
                places.append(_at_meeting(building, own, beneath, step, places))
        return building.chain_to(places[-1])


def _is_tree(up, count):
    """Whether anything is a list that tells of so many parts the number of the one above."""
    if not isinstance(up, list) or len(up) != count:
        return False
    return all([_is_above(thing, part) for part, thing in enumerate(up)])


def _is_above(thing, part):
    """Whether anything tells what is above a part: nothing of the first one, else a lesser number."""
    if part == 0:
        return thing is None
    return isinstance(thing, int) and not isinstance(thing, bool) and 0 <= thing < part


def _goes(way, beneath):
    """Whether anything is a way that goes on a tree with these just beneath each part."""
    return way in MARKS and (way != "one" or all([len(parts) < 2 for parts in beneath]))


def _parts_of_givens(parts, chain):
    """The number of the first part that has it, for each given clause that stands in some."""
    first_with = {}
    for part, clauses in enumerate(parts):
        for clause in clauses:
            first_with.setdefault(clause, part)
    return {clause: first_with[clause] for clause in chain.givens() if clause in first_with}


def _branches(beneath):
    """For each part the numbers of those at and beneath it."""
    branches = [{part: True} for part in range(len(beneath))]
    for part in reversed(range(len(beneath))):
        for other in beneath[part]:
            branches[part].update(branches[other])
    return branches


def _letter(part):
    """The letters with which the names of a part's knots begin."""
    return f"p{letters_of(part)}"


def _at_given(building, own, beneath, clause):
    """The step for a given one, whose clause is told where it is of the part itself."""
    ours = [knot for knot in beneath if knot.kind == "any"]
    if clause is not None:
        place = building.give_once(clause)
    elif ours:
        place = ours[0].long_row(False)
    else:
        place = own.long_row(True)
    if own.kind == "any":
        place = own.put_for(place, True)
    for knot in beneath:
        if knot.kind == "none":
            place = knot.put_for(place, False)
    return place


def _at_meeting(building, own, beneath, step, places):
    """The step for a meeting, of those for its two steps.

    All but one of the knots take one of their two ahead with them; that one, where there is any, needs both.
    """
    _, i, j, name = step
    needing = [(knot, False) for knot in beneath if knot.kind == "or"]
    if own.kind == "and":
        needing.append((own, True))
    taking = [(knot, False) for knot in beneath if knot.kind != "or"]
    if own.kind != "and":
        taking.append((own, True))
    halves = []
    for ahead in (i, j):
        place = places[ahead]
        for knot, yes in taking:
            place = knot.one_for(place, ahead, yes)
        halves.append(place)
    if not needing:
        return building.meet(halves[0], halves[1], name)
    knot, yes = needing[0]
    return knot.both_for(halves[0], halves[1], yes)
