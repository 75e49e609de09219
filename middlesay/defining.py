"""Names told as fixed by others, or as free."""

from middlesay.deciding import given_by
from middlesay.errors import NoName, TooMany
from middlesay.sayings import names_of
from middlesay.shaping import saying_of_table
from middlesay.tables import row_of, table

MOST_NAMES = 6


def defined(sayings, name, *, by=None):
    """("fixed", saying, first, second) over the names by alone, or ("free", row, other) that are alike in these."""
    names = sorted({other for saying in sayings for other in names_of(saying)})
    wanted = [other for other in names if other != name] if by is None else list(by)
    _refuse_wrong(names, name, wanted)
    if len(names) > MOST_NAMES:
        raise TooMany(MOST_NAMES)
    fixing = sorted(set(wanted))
    # For each row of those names the row of all in which the name is true, and one in which it isn't.
    true, false = {}, {}
    for row in _rows_of_all(sayings, names):
        told = true if row[name] else false
        told.setdefault(_number_of(row, fixing), row)
    for number in true:
        if number in false:
            return ("free", true[number], false[number])
    saying = saying_of_table(sum([1 << number for number in true]), fixing)
    whole = ("name", name)
    return ("fixed", saying, given_by(list(sayings) + [whole], saying), given_by(list(sayings) + [saying], whole))


def _refuse_wrong(names, name, wanted):
    """Refuse the least name that isn't among these, or is the name itself among those wanted."""
    wrong = [other for other in wanted if other not in names or other == name]
    if name not in names:
        wrong.append(name)
    if wrong:
        raise NoName(min(wrong))


def _rows_of_all(sayings, names):
    """The rows of these names in which all sayings hold."""
    full = (1 << (1 << len(names))) - 1
    rows = full
    for saying in sayings:
        rows &= table(saying, names)
    return [row_of(number, names) for number in range(1 << len(names)) if rows >> number & 1]


def _number_of(row, names):
    """The number of a row among those of these names."""
    return sum([1 << place for place, name in enumerate(names) if row[name]])
