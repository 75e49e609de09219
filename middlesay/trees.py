"""Search trees: which are right, and Chains turned to them and back."""

from middlesay.building import Building
from middlesay.errors import NoChain, TooGreat
from middlesay.literals import is_clause, is_name
from middlesay.masks import names_in

MOST_ON_A_WAY = 60


def is_right(tree, clauses):
    """Whether anything is a right search tree of a list of clauses."""
    known = {clause: True for clause in clauses}
    waiting = [(tree, {})]
    while waiting:
        thing, answers = waiting.pop()
        if _is_ask(thing):
            _, name, yes, no = thing
            if name in answers or len(answers) == MOST_ON_A_WAY:
                return False
            waiting.extend([(yes, {**answers, name: True}), (no, {**answers, name: False})])
        elif not _is_end(thing) or thing[1] not in known or not _is_false(thing[1], answers):
            return False
    return True


def _is_ask(thing):
    """Whether anything is an ask, whatever stands where its two trees are to be."""
    return isinstance(thing, tuple) and len(thing) == 4 and thing[0] == "ask" and is_name(thing[1])


def _is_end(thing):
    """Whether anything is the end of a way."""
    return isinstance(thing, tuple) and len(thing) == 2 and thing[0] == "end" and is_clause(thing[1])


def _is_false(clause, answers):
    """Whether each literal of a clause is false by the answers."""
    return all([name in answers and answers[name] != yes for name, yes in clause])


def asks(tree):
    """How many asks a search tree has."""
    count = 0
    waiting = [tree]
    while waiting:
        part = waiting.pop()
        if part[0] == "ask":
            count += 1
            waiting.extend(part[2:])
    return count


def chain_of_tree(tree):
    """The Chain of the empty clause that a right tree tells."""
    building = Building()
    return building.chain_to(_put_tree(building, tree))


def _put_tree(building, tree):
    """Put the steps of a tree behind the others; the number of the one whose clause is false at its top."""
    if tree[0] == "end":
        return building.give(tree[1])
    _, name, yes, no = tree
    # Where it is asked in vain, the one that doesn't need the answer is taken.
    first = _put_tree(building, no)
    second = _put_tree(building, yes)
    return building.meet(first, second, name)


def tree_of(chain, *, most=2000):
    """The right tree of a Chain of the empty clause."""
    if chain.last():
        raise NoChain("the last clause isn't empty")
    places = Ways(chain, most).told()
    trees = {}
    # What stands below is told behind.
    for number in reversed(range(len(places))):
        place = places[number]
        trees[number] = place if place[0] == "end" else ("ask", place[1], trees[place[2]], trees[place[3]])
    return trees[0]


class Ways:
    """The ways from the last step of a Chain to given ones, as the answers tell which one of a meeting is false."""

    def __init__(self, chain, most):
        self._steps = chain.steps()
        self._bits = {name: 1 << place for place, name in enumerate(names_in(chain.clauses()))}
        self._most = most

    def told(self):
        """Ends, and asks with the numbers of the two places just below."""
        # For each place the step whose clause is false there, the names that were asked and those that are true.
        waiting = [(len(self._steps) - 1, 0, 0)]
        places = []
        asked = 0
        while len(places) < len(waiting):
            number, names, true = waiting[len(places)]
            step = self._steps[self._down(number, names, true)]
            if step[0] == "given":
                places.append(("end", step[1]))
                continue
            asked += 1
            if asked > self._most:
                raise TooGreat(self._most)
            _, i, j, name = step
            bit = self._bits[name]
            places.append(("ask", name, len(waiting), len(waiting) + 1))
            waiting.extend([(j, names | bit, true | bit), (i, names | bit, true)])
        return places

    def _down(self, number, names, true):
        """The first step from this one down that is given or a meeting on a name that wasn't asked."""
        step = self._steps[number]
        while step[0] == "met" and names & self._bits[step[3]]:
            number = step[2] if true & self._bits[step[3]] else step[1]
            step = self._steps[number]
        return number
