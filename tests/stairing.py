"""Stairs that several tests go through, and a plain judge of them."""

from random import Random

from tests.helping import NO, YES, plain_names, plain_truth, rows_of, some_sayings


def branches(side, saying, left, right):
    """The two lists, as sets, of each stair above a saying that is taken apart; None where it can't be."""
    kind, *parts = saying
    if kind in ("yes", "no", "name"):
        return None
    x, y = parts[0], parts[-1]
    if side == "left":
        rest, plain = left - {saying}, right
        return {
            "not": [(rest, plain | {x})], "and": [(rest | {x, y}, plain)],
            "or": [(rest | {x}, plain), (rest | {y}, plain)], "if": [(rest, plain | {x}), (rest | {y}, plain)],
            "same": [(rest | {x, y}, plain), (rest, plain | {x, y})],
        }[kind]
    rest, plain = right - {saying}, left
    return {
        "not": [(plain | {x}, rest)], "and": [(plain, rest | {x}), (plain, rest | {y})],
        "or": [(plain, rest | {x, y})], "if": [(plain | {x}, rest | {y})],
        "same": [(plain | {x}, rest | {y}), (plain | {y}, rest | {x})],
    }[kind]


def is_plainly_shut(saying, left, right):
    return saying in left & right or (saying == YES and saying in right) or (saying == NO and saying in left)


def above_plainly(stair, left, right):
    """The lists of each stair above a step, or None where it is no step of these lists."""
    word, saying = stair[0], stair[1]
    if word == "cut":
        return [(left, right | {saying}), (left | {saying}, right)]
    if word == "shut":
        return [] if is_plainly_shut(saying, left, right) else None
    return branches(word, saying, left, right) if saying in (left if word == "left" else right) else None


def is_plain_stair(left, right, stair):
    """Whether what has the form of a stair is one of the sequent."""
    waiting = [(stair, frozenset(left), frozenset(right))]
    while waiting:
        part, ours, theirs = waiting.pop()
        told = above_plainly(part, ours, theirs)
        if told is None or len(told) != len(above(part)):
            return False
        waiting += [(other, *lists) for other, lists in zip(above(part), told)]
    return True


def above(stair):
    return stair[2] if len(stair) == 3 else ()


def steps_of(stair):
    """All steps of a stair, by their words."""
    told, waiting = [], [stair]
    while waiting:
        part = waiting.pop()
        told.append(part[0])
        waiting += above(part)
    return told


def plain_bound(stair):
    told = [plain_bound(part) for part in above(stair)]
    if stair[0] == "shut":
        return plain_parts(stair[1])
    return told[0] * told[1] if stair[0] == "cut" else 1 + sum(told)


def plain_parts(saying):
    return 1 if saying[0] == "name" else 1 + sum(plain_parts(part) for part in saying[1:])


def names_of_lists(*lists):
    return sorted(set().union(*[plain_names(saying) for sayings in lists for saying in sayings]))


def is_open(row, left, right):
    """Whether the left hold in a row and none of the right."""
    return all(plain_truth(saying, row) for saying in left) and not any(plain_truth(saying, row) for saying in right)


def follows(left, right):
    return not any(is_open(row, left, right) for row in rows_of(names_of_lists(left, right)))


def some_stair(chance, left, right, names, share, most_within, odd_cuts):
    """A stair of chance of lists, as sets, that follow; some of its steps, by the share, are cuts."""
    if most_within > 0 and chance.random() < share:
        saying = ("name", chance.choice(names))
        if odd_cuts and chance.random() < 0.5:
            saying = some_sayings(chance.randrange(10 ** 6), 1, names, 3)[0]
        lists = [(left, right | {saying}), (left | {saying}, right)]
        return ("cut", saying, tuple([some_stair(chance, *pair, names, share, most_within - 1, odd_cuts)
                                      for pair in lists]))
    shut = [saying for saying in sorted(left | right) if is_plainly_shut(saying, left, right)]
    apart = [("left", saying) for saying in sorted(left)] + [("right", saying) for saying in sorted(right)]
    apart = [(word, saying) for word, saying in apart if branches(word, saying, left, right)]
    if shut and (not apart or chance.random() < 0.7):
        return ("shut", chance.choice(shut))
    word, saying = chance.choice(apart)
    return (word, saying, tuple([some_stair(chance, *pair, names, share, most_within - 1, odd_cuts)
                                 for pair in branches(word, saying, left, right)]))


def some_sequents(count, seed=0):
    """Pairs of lists of sayings of chance, whether they follow or not."""
    for number in range(seed, seed + count):
        chance = Random(number)
        names = list("abcd")[:1 + number % 4]
        yield (some_sayings(number, chance.randint(0, 3), names, 4),
               some_sayings(number + 10 ** 6, chance.randint(0, 3), names, 4))


def some_stairs(count, share=0.4, odd_cuts=False, seed=0):
    """Lists that follow, with a stair of chance."""
    for number, (left, right) in enumerate(some_sequents(count, seed)):
        if follows(left, right):
            chance = Random(number)
            names = list("abcd")[:1 + number % 4]
            yield left, right, some_stair(chance, frozenset(left), frozenset(right), names, chance.choice((0, share)),
                                          chance.choice((2, 4, 6)), odd_cuts)
