"""Whether sayings of two sides can all be true at once, and whether sayings give a saying."""

from middlesay.clausing import clauses_of
from middlesay.errors import TooMany
from middlesay.sayings import names_of
from middlesay.search import search
from middlesay.tables import row_of, table
from middlesay.words import SMALL_LETTERS

MOST_NAMES = 9


def decided(ones, others):
    """("row", row) in which all sayings hold, or ("clash", one, other, Chain) of the clauses of both sides."""
    names = names_of_sides(ones, others)
    tables = [table(saying, names) for saying in list(ones) + list(others)]
    full = (1 << (1 << len(names))) - 1
    rows = _in_all(tables, full)
    if rows:
        least = (rows & -rows).bit_length() - 1
        return ("row", row_of(least, names))
    one, other = clauses_of_sides(ones, others)
    lists = one + other
    needed = one_behind_the_other([lists[place] for place in clashing(tables, full)])
    # The names fix all fresh ones, so with these asked first there are never too many asked.
    _, chain = search(needed, order=tuple(names))
    return ("clash", one_behind_the_other(one), one_behind_the_other(other), chain)


def given_by(sayings, saying):
    """("row", row) in which the sayings hold and the one doesn't, or ("chain", clauses, Chain) that they give it."""
    told = decided(sayings, [("not", saying)])
    if told[0] == "row":
        return told
    _, one, other, chain = told
    return ("chain", one + other, chain)


def names_of_sides(ones, others):
    """The names of all sayings of two sides, sorted; too many names are refused, then too many sayings."""
    names = sorted({name for saying in list(ones) + list(others) for name in names_of(saying)})
    if len(names) > MOST_NAMES:
        raise TooMany(MOST_NAMES)
    if max(len(ones), len(others)) > len(SMALL_LETTERS):
        raise TooMany(len(SMALL_LETTERS))
    return names


def clauses_of_sides(ones, others):
    """For either side the clauses of each saying, by a mark of its own."""
    return [_clauses_by(ones, "one"), _clauses_by(others, "other")]


def _clauses_by(sayings, side):
    return [clauses_of(saying, f"{side}{SMALL_LETTERS[place]}") for place, saying in enumerate(sayings)]


def one_behind_the_other(lists):
    """All that stands in lists, in their order."""
    return [clause for clauses in lists for clause in clauses]


def clashing(tables, full):
    """Places of tables that have no row in common, none of which can be left out; none where they have some."""
    kept = list(range(len(tables)))
    if _in_all(tables, full):
        return []
    for place in range(len(tables)):
        fewer = [other for other in kept if other != place]
        if not _in_all([tables[other] for other in fewer], full):
            kept = fewer
    return kept


def _in_all(tables, full):
    """The rows, as bits, that are in all of these tables."""
    rows = full
    for held in tables:
        rows &= held
    return rows
