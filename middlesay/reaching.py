"""Machines of few names: a shortest run to what is bad, or a saying that keeps from it."""

from middlesay.deciding import given_by
from middlesay.errors import NoName
from middlesay.sayings import names_of, parts_of
from middlesay.shaping import saying_of_table
from middlesay.tables import row_of, table


def reached(names, begin, step, bad, *, order=()):
    """("run", rows) to a bad one, or ("kept", saying, chains, rounds) with the saying that keeps from all bad ones."""
    _refuse_wrong(names, begin, step, bad)
    # Those of the order go ahead in all tables, and so in the sayings that are told of them.
    ordered = _ordered(names, order)
    ways = Ways(ordered, table(step, ordered + [_then(name) for name in ordered]))
    told = ways.to_bad(table(begin, ordered), table(bad, ordered))
    if told is not None:
        return ("run", [{name: row_of(number, ordered)[name] for name in names} for number in told])
    rounds = [begin] + [saying_of_table(rows, ordered) for rows in ways.rounds(table(begin, ordered))]
    saying = rounds[-1]
    chains = (
        given_by([begin], saying), given_by([saying, step], _saying_then(saying)), given_by([saying], ("not", bad)),
    )
    return ("kept", saying, chains, rounds)


def _then(name):
    """The name of what a name is behind the step."""
    return f"{name}n"


def _saying_then(saying):
    """The saying of what is behind the step."""
    if saying[0] == "name":
        return ("name", _then(saying[1]))
    return (saying[0],) + tuple([_saying_then(part) for part in parts_of(saying)])


def _refuse_wrong(names, begin, step, bad):
    """Refuse the least name of the three sayings that isn't theirs."""
    wrong = [name for name in names_of(begin) + names_of(bad) if name not in names]
    both = list(names) + [_then(name) for name in names]
    wrong.extend([name for name in names_of(step) if name not in both])
    if wrong:
        raise NoName(min(wrong))


def _ordered(names, order):
    """The names, those of the order first; others in it, and a name again, are passed by."""
    found = {name: True for name in order if name in names}
    found.update({name: True for name in names})
    return list(found)


class Ways:
    """Where a machine's steps lead: rows by their numbers, several of them by bits."""

    def __init__(self, names, steps):
        self._count = 1 << len(names)
        full = (1 << self._count) - 1
        self._behind = [0 for _ in range(self._count)]
        # A row of the ones then has as its number the higher bits of a row of both.
        for then in range(self._count):
            from_here = steps >> then * self._count & full
            for row in self._rows_in(from_here):
                self._behind[row] |= 1 << then

    def to_bad(self, begin, bad):
        """The rows of a shortest run from one of these to a bad one, by their numbers; None where there is none."""
        ahead = {row: None for row in self._rows_in(begin)}
        waiting = list(ahead)
        done = 0
        while done < len(waiting):
            row = waiting[done]
            done += 1
            if bad >> row & 1:
                return _way_to(row, ahead)
            for other in self._rows_in(self._behind[row]):
                if other not in ahead:
                    ahead[other] = row
                    waiting.append(other)
        return None

    def rounds(self, begin):
        """The rows that can be come to in one step or none, in two or fewer and so on, as long as they get more."""
        told = []
        rows = begin
        while (more := self._with_next(rows)) != rows:
            told.append(more)
            rows = more
        return told

    def _with_next(self, rows):
        """These rows and those just behind them."""
        told = rows
        for row in self._rows_in(rows):
            told |= self._behind[row]
        return told

    def _rows_in(self, bits):
        return [row for row in range(self._count) if bits >> row & 1]


def _way_to(row, ahead):
    """The rows on the way to this one, which is the last of them, of what stands ahead of each."""
    way = []
    while row is not None:
        way.append(row)
        row = ahead[row]
    return way[::-1]
