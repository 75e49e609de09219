"""Sayings of what is told by a table or by knots."""

from middlesay.sayings import MOST_PARTS, is_saying, parts_of
from middlesay.sayingtexts import show_saying

YES = ("yes",)
NO = ("no",)


def parts_in(saying):
    """How many parts a saying has."""
    count = 0
    waiting = [saying]
    while waiting:
        part = waiting.pop()
        count += 1
        waiting.extend(parts_of(part))
    return count


def saying_of_table(rows, names):
    """A saying of these names with this table; of at most seven names one of no more than 400 parts.

    A name that makes it no truer, or no falser, stands in it just so: with denials alone, or with none.
    """
    if not names:
        return YES if rows else NO
    width = 1 << (len(names) - 1)
    without, held = rows & ((1 << width) - 1), rows >> width
    fewer = names[:-1]
    if without == held:
        return saying_of_table(held, fewer)
    full = (1 << width) - 1
    name = ("name", names[-1])
    if held == full ^ without and without not in (0, full):
        return ("same", name, saying_of_table(held, fewer))
    if without & ~held == 0:
        return _either(_both(name, saying_of_table(held, fewer)), saying_of_table(without, fewer))
    if held & ~without == 0:
        if without == full:
            return _implied(name, saying_of_table(held, fewer))
        return _either(_both(("not", name), saying_of_table(without, fewer)), saying_of_table(held, fewer))
    return ("and", ("if", name, saying_of_table(held, fewer)), ("or", name, saying_of_table(without, fewer)))


def _both(first, second):
    """Where both hold; the second one may be yes, but not no."""
    return first if second == YES else ("and", first, second)


def _either(first, second):
    """Where one of them holds; the second one may be no, but not yes."""
    return first if second == NO else ("or", first, second)


def _implied(name, saying):
    """Where the name gives the saying, which may be no, but not yes."""
    return ("not", name) if saying == NO else ("if", name, saying)


def saying_of_knots(knots):
    """The saying that the last of these knots tells; None where it would be greater than a saying may be."""
    groups = []
    for knot in knots:
        groups.append(_group_of_knot(knot, groups))
    if groups[-1] is None:
        return None
    saying = groups[-1].saying()
    return saying if is_saying(saying) else None


class Group:
    """Unlike sayings of which all hold, or some does, by the kind "and" or "or"."""

    def __init__(self, kind, sayings):
        self.kind = kind
        # By their texts, as sayings are too deep for keys.
        self._sayings = {show_saying(saying): saying for saying in sayings}

    def is_constant(self, kind):
        """Whether it always holds, of the kind "and", or never does, of the kind "or"."""
        return self.kind == kind and not self._sayings

    def parts_for(self, kind):
        """The sayings that stand for it in a group of this kind."""
        if self.kind == kind or len(self._sayings) == 1:
            return list(self._sayings.values())
        return [self.saying()]

    def is_too_great(self):
        """Whether a saying of all of them has too many parts."""
        return sum([parts_in(saying) + 1 for saying in self._sayings.values()]) - 1 > MOST_PARTS

    def saying(self):
        """The saying of all of them, hung as flat as may be."""
        return _hung(self.kind, list(self._sayings.values()))


def _hung(kind, sayings):
    if not sayings:
        return NO if kind == "or" else YES
    if len(sayings) == 1:
        return sayings[0]
    half = len(sayings) // 2
    return (kind, _hung(kind, sayings[:half]), _hung(kind, sayings[half:]))


def _group_of_knot(knot, groups):
    """The group of a knot, of those of the knots ahead; None where it is too great."""
    if knot[0] == "any":
        return Group("or", [_saying_of_literal(literal) for literal in knot[1]])
    if knot[0] == "none":
        return Group("and", [_saying_of_literal((name, not yes)) for name, yes in knot[1]])
    if knot[0] == "pick":
        return _picked(knot[1], groups[knot[2]], groups[knot[3]])
    return _joined(knot[0], groups[knot[1]], groups[knot[2]])


def _picked(name, first, second):
    """The second group where the name is true, else the first; None where it is too great."""
    if first is None or second is None:
        return None
    # Beside one that never holds the other one needn't say for which of the two it stands.
    held = first if second.is_constant("or") else _joined("or", _group_of_literal(name, True), first)
    other = second if first.is_constant("or") else _joined("or", _group_of_literal(name, False), second)
    return _joined("and", held, other)


def _group_of_literal(name, yes):
    return Group("or", [_saying_of_literal((name, yes))])


def _saying_of_literal(literal):
    name = ("name", literal[0])
    return name if literal[1] else ("not", name)


def _joined(kind, first, second):
    """The or, or the and, of two groups; None where it is too great."""
    if first is None or second is None:
        return None
    settling = "and" if kind == "or" else "or"
    for group in (first, second):
        if group.is_constant(settling):
            return group
    told = Group(kind, first.parts_for(kind) + second.parts_for(kind))
    return None if told.is_too_great() else told
