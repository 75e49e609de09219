"""Steps that are put together to a Chain one by one."""

from middlesay.chains import Chain, meeting


def renumbered(step, numbers):
    """A step that leans on the steps with these new numbers."""
    if step[0] == "given":
        return step
    return ("met", numbers[step[1]], numbers[step[2]], step[3])


def leaning(steps, last):
    """The steps on which one of them leans, and that one, in their order."""
    needed = [number == last for number in range(last + 1)]
    for number in reversed(range(last + 1)):
        if needed[number] and steps[number][0] == "met":
            needed[steps[number][1]] = True
            needed[steps[number][2]] = True
    numbers = {}
    kept = []
    for number in range(last + 1):
        if needed[number]:
            numbers[number] = len(kept)
            kept.append(renumbered(steps[number], numbers))
    return kept


class Building:
    """Steps and their clauses, each of them known by its number."""

    def __init__(self):
        self._steps = []
        self._clauses = []
        self._given = {}

    def clause(self, number):
        """The clause of a step."""
        return self._clauses[number]

    def give(self, clause):
        """Put a given step behind the others, and tell its number."""
        return self._put(("given", clause), clause)

    def give_once(self, clause):
        """The number of the given step of this clause, put behind the others if it wasn't yet."""
        if clause not in self._given:
            self._given[clause] = self.give(clause)
        return self._given[clause]

    def meet(self, first, second, name):
        """The number of the meeting of two steps, or of the one that lacks its literal."""
        if (name, True) not in self._clauses[first]:
            return first
        if (name, False) not in self._clauses[second]:
            return second
        return self._put(("met", first, second, name), meeting(self._clauses[first], self._clauses[second], name))

    def meet_on(self, literal, number, other):
        """The meeting of a step that has the literal and another one that has its denial, likewise."""
        if literal[1]:
            return self.meet(number, other, literal[0])
        return self.meet(other, number, literal[0])

    def chain_to(self, last):
        """The Chain that ends with this step, without those on which it doesn't lean."""
        return Chain(leaning(self._steps, last))

    def _put(self, step, clause):
        self._steps.append(step)
        self._clauses.append(clause)
        return len(self._steps) - 1


def rebuilt(steps, taken):
    """The Chain of these steps, with one of its two taken for each meeting whose number is told, and trimmed.

    Where a meeting finds its literal no more, what lacks it is taken for it.
    """
    last = len(steps) - 1
    # What is left out may be in the way: its clauses needn't be clauses any more.
    needed = [number == last for number in range(last + 1)]
    for number in reversed(range(last + 1)):
        if needed[number]:
            for ahead in _leant_on(steps, number, taken):
                needed[ahead] = True
    building = Building()
    places = {}
    for number, step in enumerate(steps):
        if not needed[number]:
            continue
        if number in taken:
            places[number] = places[taken[number]]
        elif step[0] == "given":
            places[number] = building.give(step[1])
        else:
            places[number] = building.meet(places[step[1]], places[step[2]], step[3])
    return building.chain_to(places[last])


def _leant_on(steps, number, taken):
    """The numbers of the steps on which this one leans."""
    if number in taken:
        return (taken[number],)
    if steps[number][0] == "given":
        return ()
    return steps[number][1:3]
