"""Knots: the names that stand in them, their tables, and the program's sayings of them."""

from middlesay.sayings import MOST_PARTS
from middlesay.shaping import parts_in, saying_of_knots, saying_of_table
from middlesay.tables import column

# Of so many names each table has a saying that isn't too great; of more only some have.
ALWAYS_BY_TABLE = 7
MOST_BY_TABLE = 12


def names_of_knots(knots):
    """The names that stand in knots, sorted."""
    return sorted({name for knot in knots for name in _names_of_knot(knot)})


def _names_of_knot(knot):
    if knot[0] == "pick":
        return [knot[1]]
    return [name for name, _ in knot[1]] if knot[0] in ("any", "none") else []


def table_of_knots(knots, names):
    """The whole number whose bit r tells whether the last knot holds in row r of the names."""
    full = (1 << (1 << len(names))) - 1
    columns = {name: column(place, full) for place, name in enumerate(names)}
    rows = []
    for knot in knots:
        rows.append(_rows_of_knot(knot, rows, columns, full))
    return rows[-1]


def _rows_of_knot(knot, rows, columns, full):
    """The rows, as bits, in which a knot holds, of those of the knots ahead."""
    if knot[0] in ("any", "none"):
        some = 0
        for name, yes in knot[1]:
            some |= columns[name] if yes else full ^ columns[name]
        return some if knot[0] == "any" else full ^ some
    i, j = rows[knot[-2]], rows[knot[-1]]
    if knot[0] == "or":
        return i | j
    if knot[0] == "and":
        return i & j
    return (columns[knot[1]] & j) | ((full ^ columns[knot[1]]) & i)


def own_saying(knots):
    """The program's saying of what the last knot tells; None where it has none."""
    names = names_of_knots(knots)
    saying = None
    if len(names) <= MOST_BY_TABLE:
        saying = saying_of_table(table_of_knots(knots, names), names)
    if len(names) <= ALWAYS_BY_TABLE or (saying is not None and parts_in(saying) <= MOST_PARTS):
        return saying
    return saying_of_knots(knots)
