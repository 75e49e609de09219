"""Sayings and rows that several tests go through."""

from random import Random

A = ("name", "a")
B = ("name", "b")
C = ("name", "c")
D = ("name", "d")
YES = ("yes",)
NO = ("no",)
PAIRS = ("and", "or", "if", "same")

# What is neither text nor tuple nor list, and such as look a little like what is asked for.
ODD_THINGS = (
    None, True, False, 0, 1, -1, 10 ** 59, "", " ", "a", "yes", "name", "given", "\n", (), [], ((),), ([],), [()],
    ("",), (None,), (True,), (0,), ("a",), ("name",), ["yes"], [["yes"]], [("yes",)], ("yes", "no"), (("yes",),),
    (["yes"],), (("name", "a"),), ([("given", ())],), ("given", ()), ("met", 0, 1, "a"),
)


def within(count):
    """Tuples, and lists by turns, of which so many stand within one another."""
    thing = ()
    for number in range(count - 1):
        thing = [thing] if number % 2 else (thing,)
    return thing


def nots(count, saying=A):
    """The saying within so many denials."""
    for _ in range(count):
        saying = ("not", saying)
    return saying


def evenly(kind, count):
    """A saying of so many names, hung as flat as may be, so of twice as many parts but one."""
    if count == 1:
        return A
    return (kind, evenly(kind, count // 2), evenly(kind, count - count // 2))


def rows_of(names):
    """All rows of truth of these names."""
    return [{name: bool(bits >> place & 1) for place, name in enumerate(names)} for bits in range(1 << len(names))]


def plain_names(saying):
    """The names of a saying, found the plain way."""
    if saying[0] == "name":
        return {saying[1]}
    return set().union(*[plain_names(part) for part in saying[1:]])


def plain_truth(saying, row):
    """Whether a saying holds, by the usual tables."""
    kind, *parts = saying
    if kind == "name":
        return row[parts[0]]
    told = [plain_truth(part, row) for part in parts]
    if kind in ("yes", "no"):
        return kind == "yes"
    if kind == "not":
        return not told[0]
    tables = {"and": "1000", "or": "1110", "if": "1011", "same": "1001"}
    return tables[kind][2 * (not told[0]) + (not told[1])] == "1"


def some_sayings(seed, count, names, within_most):
    """So many sayings, the same for the same seed."""
    chance = Random(seed)
    return [_some_saying(chance, names, chance.randint(1, within_most)) for _ in range(count)]


def _some_saying(chance, names, left):
    kind = chance.choice(("name", "name", "name", "yes", "no") if left == 1 else ("name", "not") + PAIRS + PAIRS)
    if kind == "name":
        return ("name", chance.choice(names))
    count = {"yes": 0, "no": 0, "not": 1}.get(kind, 2)
    return (kind, *[_some_saying(chance, names, left - 1) for _ in range(count)])


def small_sayings():
    """Each kind over names, yes and no, and each kind within each other kind, on either side."""
    leaves = [A, B, YES, NO]
    simple = [("not", leaf) for leaf in leaves] + [(kind, x, y) for kind in PAIRS for x in leaves for y in leaves]
    some = [("not", B)] + [(kind, A, B) for kind in PAIRS]
    deeper = [("not", part) for part in some]
    for kind in PAIRS:
        deeper += [(kind, part, C) for part in some] + [(kind, C, part) for part in some]
        deeper += [(kind, x, y) for x in some for y in some]
    return leaves + simple + deeper
