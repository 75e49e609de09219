"""Names forgotten of clauses, and the strongest and the weakest middle of two lists of them."""

from middlesay.building import Building
from middlesay.errors import NoName, TooGreat
from middlesay.knots import own_saying
from middlesay.masks import mask_of, masks_of, names_in
from middlesay.sayings import MOST_PARTS
from middlesay.shaping import parts_in
from middlesay.words import is_word


def forgotten(clauses, names, *, most=400):
    """Clauses without these names, each with a Chain to it, that are true where these names can make all true."""
    forgetting = Forgetting(clauses, most)
    wanted = {name: True for name in names}
    waiting = [name for name in names_in(clauses) if name in wanted]
    while waiting:
        name = forgetting.easiest(waiting)
        forgetting.forget(name)
        waiting.remove(name)
    return forgetting.told()


class Forgetting:
    """Clauses by bits, none a part of another one, and for each the step of a Chain that comes to it."""

    def __init__(self, clauses, most):
        self._most = most
        self._masks = masks_of(names_in(clauses))
        # The bits of the names that aren't denied: each stands beneath its denial's.
        self._plain = sum([self._masks[literal] for literal in self._masks if literal[1]])
        self._building = Building()
        given = {mask_of(clause, self._masks): clause for clause in clauses}
        self._steps = {mask: self._building.give(given[mask]) for mask in self._needed(given)}

    def easiest(self, names):
        """The one of these names whose forgetting makes the fewest meetings."""
        counts = {}
        for mask in self._steps:
            for bit in _bits_of(mask):
                counts[bit] = counts.get(bit, 0) + 1
        return min(names, key=lambda name: self._meetings(name, counts))

    def forget(self, name):
        """Take all meetings on a name in the place of the clauses in which it stands."""
        first, second = self._with_name(name)
        untouched = [mask for mask in self._steps if mask not in first and mask not in second]
        # Those that aren't met at all go ahead of meetings that come to the same.
        found = {mask: None for mask in untouched}
        both = self._masks[(name, True)] | self._masks[(name, False)]
        for mask in first:
            for other in second:
                met = (mask | other) & ~both
                if not met & met >> 1 & self._plain:
                    found.setdefault(met, (mask, other))
        self._steps = {mask: self._step_of(mask, found[mask], name) for mask in self._needed(found)}

    def told(self):
        """The clauses, sorted, each with its Chain."""
        steps = sorted(list(self._steps.values()), key=lambda step: self._building.clause(step))
        return [(self._building.clause(step), self._building.chain_to(step)) for step in steps]

    def _with_name(self, name):
        """The clauses that have the name, and those that have its denial, as keys."""
        bit, other = self._masks[(name, True)], self._masks[(name, False)]
        return {mask: True for mask in self._steps if mask & bit}, {mask: True for mask in self._steps if mask & other}

    def _meetings(self, name, counts):
        """How many meetings on a name there are, of the number of clauses that each literal stands in."""
        return counts.get(self._masks[(name, True)], 0) * counts.get(self._masks[(name, False)], 0)

    def _step_of(self, mask, met, name):
        """The step that comes to a clause that was there already, or to the meeting of these two."""
        if met is None:
            return self._steps[mask]
        return self._building.meet(self._steps[met[0]], self._steps[met[1]], name)

    def _needed(self, masks):
        """Those of these clauses of which no other one is a part; refused where they are too many."""
        kept = []
        by_least = {}
        # A part's bits are among the whole's, so it is the lesser number, and stands ahead.
        for mask in sorted(masks):
            if not _has_part(mask, by_least):
                by_least.setdefault(mask & -mask, []).append(mask)
                kept.append(mask)
                if len(kept) > self._most:
                    raise TooGreat(self._most)
        return kept


def _bits_of(mask):
    """The bits of a clause, each by itself."""
    bits = []
    while mask:
        bits.append(mask & -mask)
        mask &= mask - 1
    return bits


def _has_part(mask, by_least):
    """Whether one of the clauses, told by their least bits, is a part of this one."""
    for bit in [0] + _bits_of(mask):
        for part in by_least.get(bit, ()):
            if part & mask == part:
                return True
    return False


def strongest(one, other, *, most=400):
    """The saying over shared names that the one list gives and that gives each other one that it gives."""
    return _saying_of_kept(one, other, most, ("none", "any", "and"))


def weakest(one, other, *, most=400):
    """The saying over shared names that clashes with the other list and that each other one gives that does."""
    return _saying_of_kept(other, one, most, ("any", "none", "or"))


def _saying_of_kept(kept, lacking, most, kinds):
    """The saying of one list's clauses without the names that the other one lacks, or of their denial.

    The kinds are those of a knot of no clause, of one clause, and of two.
    """
    known = {name: True for name in names_in(lacking)}
    names = names_in(kept)
    for name in names:
        if name in known and not is_word(name):
            raise NoName(name)
    of_none, of_one, of_two = kinds
    rows = forgotten(kept, [name for name in names if name not in known], most=most)
    knots = [(of_one, clause) for clause, _ in rows] if rows else [(of_none, ())]
    last = 0
    for number in range(1, len(rows)):
        knots.append((of_two, last, number))
        last = len(knots) - 1
    saying = own_saying(knots)
    if saying is None or parts_in(saying) > MOST_PARTS:
        raise TooGreat(MOST_PARTS)
    return saying
