"""Lists of clauses and Chains that several tests go through, and plain ways to tell what is asked of them."""

from functools import cache
from random import Random

from middlesay.chains import Chain
from tests.helping import rows_of


def clause(text):
    """The clause of a text: "a -b", or "." for the empty one."""
    words = [] if text == "." else text.split()
    return tuple(sorted((word.lstrip("-"), not word.startswith("-")) for word in words))


def clauses(text):
    """Clauses with commas between."""
    return [clause(part.strip()) for part in text.split(",")]


def chain(text):
    """A Chain of rows: a clause each, or "= I J NAME" for a meeting."""
    steps = []
    for row in text.split(","):
        words = row.split()
        if words[0] == "=":
            steps.append(("met", int(words[1]), int(words[2]), words[3]))
        else:
            steps.append(("given", clause(row.strip())))
    return Chain(steps)


def names_of_clauses(rows):
    return sorted({name for row in rows for name, _ in row})


def is_plainly_true(row, truth):
    return any(truth[name] is yes for name, yes in row)


def truths_of(rows, names):
    """The rows, as a set of numbers by their bits, in which all these clauses are true."""
    told = enumerate(rows_of(names))
    return {number for number, truth in told if all(is_plainly_true(row, truth) for row in rows)}


def meetings_in(told):
    return sum(1 for step in told.steps() if step[0] == "met")


def meetings_unfolded(told):
    """How many meetings there are where each step is told anew for each use of it."""
    counts = []
    for step in told.steps():
        counts.append(1 + counts[step[1]] + counts[step[2]] if step[0] == "met" else 0)
    return counts[-1]


def pigeons(things, places):
    """Each thing is in some place, and no two are in one."""
    names = [[f"{chr(ord('a') + thing)}{place}" for place in range(places)] for thing in range(things)]
    rows = [tuple(sorted((name, True) for name in row)) for row in names]
    for place in range(places):
        for thing in range(things):
            rows += [tuple(sorted([(names[thing][place], False), (names[other][place], False)]))
                     for other in range(thing)]
    return rows


def some_clauses(chance, names, count, least=1, most=4):
    """Up to so many unlike clauses, in an order of chance."""
    found = {}
    for _ in range(count):
        told = chance.sample(names, chance.randint(least, min(most, len(names))))
        found[tuple(sorted((name, chance.random() < 0.5) for name in told))] = True
    rows = list(found)
    chance.shuffle(rows)
    return rows


def _one_more_meeting(chance, steps, rows):
    """Put one more meeting behind the steps, if two drawn ones meet."""
    least = max(0, len(rows) - 20) if chance.random() < 0.7 else 0
    first = chance.randrange(least, len(rows))
    second = chance.randrange(len(rows))
    for i, j in ((first, second), (second, first)):
        for name, yes in rows[i]:
            rest = {literal for literal in rows[i] + rows[j] if literal[0] != name}
            if yes and (name, False) in rows[j] and len({other for other, _ in rest}) == len(rest):
                steps.append(("met", i, j, name))
                rows.append(tuple(sorted(rest)))
                return


def some_chain(seed, names, tries=60):
    """A Chain of chance, the same for the same seed; names may be met again and again in it."""
    chance = Random(seed)
    rows = some_clauses(chance, names, chance.randint(3, 10))
    steps = [("given", row) for row in rows]
    for _ in range(chance.randint(5, tries)):
        _one_more_meeting(chance, steps, rows)
        if not rows[-1]:
            break
    return Chain(steps)


def some_clash(seed, names):
    """A Chain of chance of the empty clause, the same for the same seed."""
    chance = Random(seed)
    while True:
        rows = some_clauses(chance, names, chance.randint(4, 14))
        steps = [("given", row) for row in rows]
        for _ in range(300):
            _one_more_meeting(chance, steps, rows)
            if not rows[-1]:
                return Chain(steps)


@cache
def some_chains():
    """Chains of several kinds: of few and of many names, with long ways and with short ones."""
    told = [some_chain(seed, list("abcdefg")[:2 + seed % 6], 40 + seed % 90) for seed in range(250)]
    return (*told, *some_clashes())


@cache
def some_clashes():
    """Chains of chance of the empty clause, of two to six names."""
    return tuple(some_clash(seed, list("abcdef")[:2 + seed % 5]) for seed in range(120))
