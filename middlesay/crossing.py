"""Search trees turned to stairs of clauses as sayings, and such stairs to search trees."""

from middlesay.masks import names_in
from middlesay.stairs import NO


def sayings_of(clauses):
    """A saying for each clause: its literals joined by or, in their order, the first two first."""
    return [_saying_of_clause(clause) for clause in clauses]


def _saying_of_clause(clause):
    if not clause:
        return NO
    saying = _saying_of_literal(clause[0])
    for literal in clause[1:]:
        saying = ("or", saying, _saying_of_literal(literal))
    return saying


def _saying_of_literal(literal):
    name = ("name", literal[0])
    return name if literal[1] else ("not", name)


def from_tree(tree, clauses):
    """The stair of these clauses on the left and nothing on the right, with a cut for each ask of a right tree."""
    sayings = {clause: saying for clause, saying in zip(clauses, sayings_of(clauses))}
    return _stair_of_tree(tree, sayings)


def _stair_of_tree(tree, sayings):
    if tree[0] == "end":
        return _stair_of_end(tree[1], sayings[tree[1]])
    _, name, yes, no = tree
    # The right is what needn't hold: there the name stands where the answer is no.
    return ("cut", ("name", name), (_stair_of_tree(no, sayings), _stair_of_tree(yes, sayings)))


def _stair_of_end(clause, saying):
    """The stair where all literals of a clause are false: each name on the list that its denial wants."""
    if len(clause) < 2:
        return _stair_of_literal(saying)
    _, ahead, last = saying
    return ("left", saying, (_stair_of_end(clause[:-1], ahead), _stair_of_literal(last)))


def _stair_of_literal(saying):
    """The stair of a false literal, or of no."""
    if saying[0] == "not":
        return ("left", saying, (("shut", saying[1]),))
    return ("shut", saying)


def to_tree(clauses, stair):
    """The right search tree of clauses, of a stair of them on the left and nothing on the right."""
    crossing = Crossing(clauses)
    waiting = [((), (stair, {}), {}, {})]
    places = []
    while len(places) < len(waiting):
        told, above = crossing.told_at(waiting[len(places)])
        places.append((told, len(waiting)))
        waiting.extend(above)
    trees = {}
    for number in reversed(range(len(places))):
        told, first = places[number]
        if told[0] == "end":
            trees[number] = (told, crossing.bits_of(told[1]))
        else:
            trees[number] = crossing.asked(told[1], trees[first], trees[first + 1])
    return trees[0][0]


class Crossing:
    """What is asked at the places of a stair of clauses.

    Each name on the left was answered so, or is a clause of its own; each one on the right was denied. A place has
    tests, literals each with the stair that goes on where it is true; what goes on where all are false, an end or a
    stair; what was answered on the way; and the rests: by their texts ors on the left, each with a clause that has but
    false literals beside those of the or.
    """

    def __init__(self, clauses):
        self._wholes = {repr(saying): clause for clause, saying in zip(clauses, sayings_of(clauses))}
        self._bits = {name: 1 << place for place, name in enumerate(names_in(clauses))}

    def bits_of(self, clause):
        """The names of a clause, by bits."""
        return sum([self._bits[name] for name, _ in clause])

    def asked(self, name, yes, no):
        """The tree that asks a name, or one of the two if it doesn't need the answer; each with its names, by bits."""
        # What is cut on needn't be a name of the clauses.
        bit = self._bits.get(name, 0)
        for tree in (yes, no):
            if not tree[1] & bit:
                return tree
        return ("ask", name, yes[0], no[0]), (yes[1] | no[1]) & ~bit

    def told_at(self, place):
        """The end or the ask at a place, and for an ask the places where it is true, and where not."""
        tests, last, answers, rests = place
        while True:
            if not tests:
                thing, rests = last
                if thing[0] == "end":
                    return thing, []
                tests, last = self._tests_of(thing, rests)
            elif tests[0][0] not in answers:
                break
            elif answers[tests[0][0]] == tests[0][1]:
                tests, last = (), (tests[0][2], rests)
            else:
                tests = tests[1:]
        name, yes, stair = tests[0]
        held = ((), (stair, rests), {**answers, name: yes}, rests)
        failed = (tests[1:], last, {**answers, name: not yes}, rests)
        return ("ask", name), [held, failed] if yes else [failed, held]

    def _tests_of(self, stair, rests):
        """The tests at a step, and with its rests what goes on where all of these literals are false."""
        word, saying = stair[0], stair[1]
        if word == "shut":
            # The name is on the right, too, so it was denied, and is a clause of its own.
            return (), (("end", () if saying == NO else ((saying[1], True),)), rests)
        if word == "cut":
            return ((saying[1], True, stair[2][1]),), (stair[2][0], rests)
        if saying[0] == "not":
            return ((saying[1][1], False, stair[2][0]),), (("end", ((saying[1][1], False),)), rests)
        return self._tests_of_or(saying, stair[2], rests)

    def _tests_of_or(self, saying, stairs, rests):
        _, ahead, last = saying
        text = repr(saying)
        clause = rests[text] if text in rests else self._wholes[text]
        test = _literal_of_saying(last) + (stairs[1],)
        if ahead[0] == "or":
            return (test,), (stairs[0], {**rests, repr(ahead): clause})
        return (test, _literal_of_saying(ahead) + (stairs[0],)), (("end", clause), rests)


def _literal_of_saying(saying):
    return (saying[1][1], False) if saying[0] == "not" else (saying[1], True)
