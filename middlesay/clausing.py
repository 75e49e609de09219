"""Sayings told as clauses, with fresh names and without."""

from middlesay.errors import TooGreat
from middlesay.literals import clause_of, denied
from middlesay.sayings import names_of, parts_of

# Lists up to this length are rid of clauses that another one makes needless; each is
# compared with each for that, so longer ones aren't. All of six names (729) are short enough.
MOST_COMPARED = 1000


def clauses_of(saying, mark):
    """The clauses of a saying; fresh names are the mark and a number."""
    clauses = []
    fresh = []
    literal = _literal_of(saying, mark, fresh, clauses)
    return clauses + [(literal,)]


def _literal_of(saying, mark, fresh, clauses):
    """The literal that is true just where the saying holds, as the clauses that are put to the others fix it."""
    kind = saying[0]
    if kind == "name":
        return (saying[1], True)
    parts = [_literal_of(part, mark, fresh, clauses) for part in parts_of(saying)]
    if kind == "not":
        return denied(parts[0])
    whole = (f"{mark}{len(fresh)}", True)
    fresh.append(whole)
    rows = [clause_of(row) for row in _fixing(kind, whole, parts)]
    # What has a name both ways is always true, and no clause.
    clauses.extend([row for row in rows if row is not None])
    return whole


def _fixing(kind, whole, parts):
    """Lists of literals, some true in each of them just where the whole is true as the parts say."""
    if kind == "yes":
        return [[whole]]
    if kind == "no":
        return [[denied(whole)]]
    left, right = parts
    if kind == "and":
        return _fixing("or", denied(whole), [denied(left), denied(right)])
    if kind == "if":
        return _fixing("or", whole, [denied(left), right])
    if kind == "or":
        return [[denied(whole), left, right], [whole, denied(left)], [whole, denied(right)]]
    return [
        [denied(whole), denied(left), right],
        [denied(whole), left, denied(right)],
        [whole, left, right],
        [whole, denied(left), denied(right)],
    ]


def spread(saying, *, most=500):
    """Clauses with the saying's names alone that are all true just where it holds."""
    names = names_of(saying)
    spreading = Spreading(saying, names, most)
    return sorted([_clause_of_bits(row, names) for row in spreading.whole()])


def _clause_of_bits(row, names):
    """The clause of literals that are told by bits: of the names, and of the denied ones."""
    plain, barred = row
    standing = [(place, name) for place, name in enumerate(names) if (plain | barred) >> place & 1]
    return tuple([(name, plain >> place & 1 == 1) for place, name in standing])


class Spreading:
    """The clauses of each part of a saying, and of its denial, by bits, as far as they are asked for."""

    def __init__(self, saying, names, most):
        self._most = most
        self._bits = {name: 1 << place for place, name in enumerate(names)}
        self._parts = []
        self._told = {}
        self._number(saying)

    def whole(self):
        """The clauses of the whole saying."""
        return self._rows(len(self._parts) - 1, True)

    def _number(self, saying):
        """Give the parts of a saying their numbers, the whole's last, and tell that one."""
        numbers = [self._number(part) for part in parts_of(saying)]
        self._parts.append((saying, numbers))
        return len(self._parts) - 1

    def _rows(self, part, yes):
        """The clauses of a part, or of its denial."""
        # Without keeping them, each same within a same would ask for all beneath twice.
        if (part, yes) not in self._told:
            rows = _needed(self._made(part, yes))
            if len(rows) > self._most:
                raise TooGreat(self._most)
            self._told[(part, yes)] = rows
        return self._told[(part, yes)]

    def _made(self, part, yes):
        saying, numbers = self._parts[part]
        kind = saying[0]
        if kind in ("yes", "no"):
            return [] if (kind == "yes") == yes else [(0, 0)]
        if kind == "name":
            bit = self._bits[saying[1]]
            return [(bit, 0) if yes else (0, bit)]
        if kind == "not":
            return self._rows(numbers[0], not yes)
        left, right = numbers
        if kind == "same":
            return self._either(left, True, right, not yes) + self._either(left, False, right, yes)
        left_yes = not yes if kind == "if" else yes
        if (kind == "and") == yes:
            return self._rows(left, left_yes) + self._rows(right, yes)
        return self._either(left, left_yes, right, yes)

    def _either(self, left, left_yes, right, right_yes):
        """The clauses that are all true where those of the left are, or those of the right."""
        others = self._rows(right, right_yes)
        found = {}
        for plain, barred in self._rows(left, left_yes):
            for other_plain, other_barred in others:
                row = (plain | other_plain, barred | other_barred)
                if not row[0] & row[1]:
                    found[row] = True
            # So many that none would be left out, and too many to be told: no need to go on.
            if len(found) > max(self._most, MOST_COMPARED):
                raise TooGreat(self._most)
        return list(found)


def _needed(rows):
    """Unlike ones of these clauses, without those of which another one is a part, if they aren't too many."""
    unlike = sorted(set(rows))
    if len(unlike) > MOST_COMPARED:
        return unlike
    kept = []
    # A part of a clause is sorted ahead of it, as its bits are among the other's.
    for plain, barred in unlike:
        if not _has_part(kept, plain, barred):
            kept.append((plain, barred))
    return kept


def _has_part(rows, plain, barred):
    """Whether some of these clauses is a part of this one."""
    for other_plain, other_barred in rows:
        if plain | other_plain == plain and barred | other_barred == barred:
            return True
    return False
