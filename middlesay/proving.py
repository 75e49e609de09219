"""Stairs without cut of sequents, or rows in which their left hold and none of their right."""

from middlesay.clausing import clauses_of
from middlesay.sayings import names_of, value_of_parts
from middlesay.search import search
from middlesay.stairs import LEFT, RIGHT, SIDES, grown
from middlesay.tables import column, row_of
from middlesay.words import letters_of

# Of so many names it is told by tables what is needed of lists; of more it is searched for once.
MOST_BY_TABLE = 20
WITHOUT_BOUND = 1 << 60


def proved(book, lists, most):
    """("stair", stair) of the lists, or ("row", row) of all their names in which they don't follow."""
    names = _names_of_lists(book, lists)
    row = None
    if len(names) > MOST_BY_TABLE:
        row, lists = _searched(book, lists, names)
        names = names if lists is None else _names_of_lists(book, lists)
    tables = Tables(book, names) if len(names) <= MOST_BY_TABLE else None
    if row is None and tables is not None:
        row = tables.open_row(lists)
    if row is not None:
        return ("row", row)
    proving = Proving(book, tables)
    return ("stair", grown((lists, lists), lambda place: proving.told_at(place), most))


def _names_of_lists(book, lists):
    """The names of all sayings of two lists, sorted."""
    sayings = [book.saying(number) for number in numbers_in(lists[LEFT] | lists[RIGHT])]
    return sorted({name for saying in sayings for name in names_of(saying)})


def numbers_in(bits):
    """The numbers that are told by bits, rising."""
    return [number for number in range(bits.bit_length()) if bits >> number & 1]


def _searched(book, lists, names):
    """A row of these names in which the left hold and none of the right, and None; or None, and what is needed."""
    clauses = []
    member_of = {}
    for place, member in enumerate(_members(lists)):
        saying = book.saying(member[1])
        for clause in clauses_of(saying if member[0] == LEFT else ("not", saying), f"q{letters_of(place)}"):
            clauses.append(clause)
            member_of.setdefault(clause, member)
    word, told = search(clauses, most=WITHOUT_BOUND)
    if word == "row":
        return {name: told.get(name, False) for name in names}, None
    needed = [0, 0]
    for clause in told.givens():
        side, number = member_of[clause]
        needed[side] |= 1 << number
    return None, tuple(needed)


class Tables:
    """The rows of some names in which sayings of a book hold, as bits."""

    def __init__(self, book, names):
        self._book = book
        self._names = names
        self._full = (1 << (1 << len(names))) - 1
        self._rows = {book.number(("name", name)): column(place, self._full) for place, name in enumerate(names)}

    def open_row(self, lists):
        """A row in which the left hold and none of the right; None where there is none."""
        rows = self._full
        for side, number in _members(lists):
            rows &= self._telling(side, number)
        if not rows:
            return None
        return row_of((rows & -rows).bit_length() - 1, self._names)

    def needed(self, lists):
        """Lists that follow already, and of which nothing can be left out, of such as follow."""
        # Greater sayings are left out first, as it is for them that steps have to be taken.
        members = sorted(_members(lists), key=lambda member: -self._book.size(member[1]))
        behind = [self._full]
        for side, number in reversed(members):
            behind.append(behind[-1] & self._telling(side, number))
        rows = self._full
        kept = [0, 0]
        for side, number in members:
            behind.pop()
            if rows & behind[-1]:
                rows &= self._telling(side, number)
                kept[side] |= 1 << number
        return tuple(kept)

    def _telling(self, side, number):
        """The rows in which a saying of this list doesn't let the lists follow."""
        rows = self._rows_of(number)
        return rows if side == LEFT else self._full ^ rows

    def _rows_of(self, number):
        if number not in self._rows:
            parts = [self._rows_of(part) for part in self._book.parts(number)]
            self._rows[number] = value_of_parts(self._book.saying(number)[0], parts, self._full)
        return self._rows[number]


def _members(lists):
    """Pairs of a side and a number of all sayings of two lists."""
    return [(side, number) for side in (LEFT, RIGHT) for number in numbers_in(lists[side])]


class Proving:
    """The program's choice of the step for lists that follow: of what is needed of them, and of all that is there."""

    def __init__(self, book, tables):
        self._book = book
        self._tables = tables

    def told_at(self, place):
        """The step's word and saying at a place, and the places of the stairs above it."""
        book = self._book
        lists, whole = place
        shutting = book.shutting(whole)
        if shutting:
            return ("shut", book.saying((shutting & -shutting).bit_length() - 1), [])
        if self._tables is not None:
            # What isn't needed would only be taken apart in vain.
            lists = self._tables.needed(lists)
        side, number = self._chosen(lists, whole)
        above = list(zip(book.above(lists, side, number), book.above(whole, side, number)))
        return (SIDES[side], book.saying(number), above)

    def _chosen(self, lists, whole):
        """The side and the number of the saying that is taken apart: one of one stair above, or of the fewest ways."""
        members = [member for member in _members(lists) if self._book.put_in(member[0], member[1])]
        for side, number in members:
            if len(self._book.put_in(side, number)) == 1:
                return side, number
        counted = {}
        return min(members, key=lambda member: self._ways(member, whole, counted))

    def _ways(self, member, whole, counted):
        """How many ways stay where a saying is taken apart as far as may be, without those that are shut at once."""
        if member not in counted:
            counted[member] = self._count_ways(member, whole, counted)
        return counted[member]

    def _count_ways(self, member, whole, counted):
        side, number = member
        bits = [0, 0]
        bits[side] = 1 << number
        if self._book.shutting((whole[LEFT] | bits[LEFT], whole[RIGHT] | bits[RIGHT])):
            return 0
        branches = self._book.put_in(side, number)
        if not branches:
            return 1
        total = 0
        for branch in branches:
            ways = 1
            for pair in branch:
                ways *= self._ways(pair, whole, counted)
            total += ways
        return total
