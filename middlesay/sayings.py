"""What a saying is, the names in it, and whether it holds in a row."""

from middlesay.words import is_word, refuse_lacking

MOST_PARTS = 400
MOST_WITHIN = 25
LENGTHS = {"yes": 1, "no": 1, "name": 2, "not": 2, "and": 3, "or": 3, "if": 3, "same": 3}


def parts_of(saying):
    """The sayings that stand in this one just below it, in their order."""
    if saying[0] == "name":
        return ()
    return saying[1:]


def _has_form(thing):
    """Whether it is as a saying is, whatever stands where its parts are to be."""
    if not isinstance(thing, tuple) or not thing or not isinstance(thing[0], str):
        return False
    if len(thing) != LENGTHS.get(thing[0]):
        return False
    return thing[0] != "name" or is_word(thing[1])


def is_saying(thing):
    """Whether anything is a saying."""
    waiting = [(thing, 1)]
    count = 0
    while waiting:
        part, within = waiting.pop()
        count += 1
        # Stopping at once keeps it short where one tuple stands in itself very often.
        if count > MOST_PARTS or within > MOST_WITHIN or not _has_form(part):
            return False
        waiting.extend([(inner, within + 1) for inner in parts_of(part)])
    return True


def names_of(saying):
    """The names of a saying, sorted."""
    found = {}
    waiting = [saying]
    while waiting:
        part = waiting.pop()
        if part[0] == "name":
            found[part[1]] = True
        waiting.extend(parts_of(part))
    return sorted(found)


def value_of(saying, values, full):
    """The rows in which a saying holds, as bits, of the rows of each name and of all rows."""
    if saying[0] == "name":
        return values[saying[1]]
    return value_of_parts(saying[0], [value_of(part, values, full) for part in parts_of(saying)], full)


def value_of_parts(kind, parts, full):
    """The rows in which a saying of this kind, but no name, holds, of those of its parts and of all rows."""
    if kind == "yes":
        return full
    if kind == "no":
        return 0
    if kind == "not":
        return full ^ parts[0]
    if kind == "and":
        return parts[0] & parts[1]
    if kind == "or":
        return parts[0] | parts[1]
    if kind == "if":
        return (full ^ parts[0]) | parts[1]
    return full ^ parts[0] ^ parts[1]


def holds(saying, row):
    """Whether a saying holds in a row of truth."""
    names = names_of(saying)
    refuse_lacking(names, row)
    values = {name: 1 if row[name] else 0 for name in names}
    return value_of(saying, values, 1) == 1
