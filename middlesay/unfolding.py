"""Tree chains: each Chain unfolded to one, and made regular."""

from middlesay.building import rebuilt, renumbered
from middlesay.chains import Chain
from middlesay.errors import TooGreat
from middlesay.masks import masks_of


def is_tree_chain(chain):
    """Whether each step but the last is used just once."""
    uses = [0 for _ in range(len(chain))]
    for step in chain.steps():
        for ahead in _leant_on(step):
            uses[ahead] += 1
    return all([count == 1 for count in uses[:-1]])


def _leant_on(step):
    """The numbers of the steps on which this one leans."""
    return step[1:3] if step[0] == "met" else ()


def unfolded(chain, *, most=4000):
    """The tree chain in which each step is told anew for each use of it."""
    steps = chain.steps()
    uses = _uses_in_all(steps)
    if sum(uses) > most:
        raise TooGreat(most)
    told = []
    # For each step the numbers of those told for it that aren't used yet.
    unused = []
    for step, count in zip(steps, uses):
        places = []
        for _ in range(count):
            places.append(len(told))
            told.append(_leaning_on_unused(step, unused))
        unused.append(places)
    return Chain(told)


def _leaning_on_unused(step, unused):
    """The step, leaning on such as were told for those on which it leans, and aren't used yet."""
    numbers = {}
    for ahead in _leant_on(step):
        numbers[ahead] = unused[ahead].pop()
    return renumbered(step, numbers)


def _uses_in_all(steps):
    """How often each step is told where each use of it, and of what leans on it, is told anew."""
    uses = [0 for _ in steps]
    uses[-1] = 1
    for number in reversed(range(len(steps))):
        for ahead in _leant_on(steps[number]):
            uses[ahead] += uses[number]
    return uses


def regular(chain):
    """The tree chain of a tree chain in which no name is met twice on a way."""
    steps = chain.steps()
    masks = masks_of(sorted({step[3] for step in steps if step[0] == "met"}))
    met = {len(steps) - 1: 0}
    taken = {}
    for number in reversed(range(len(steps))):
        step = steps[number]
        if step[0] == "given" or number not in met:
            continue
        _, i, j, name = step
        first, second = masks[(name, True)], masks[(name, False)]
        if met[number] & first:
            taken[number] = i
            met[i] = met[number]
        elif met[number] & second:
            taken[number] = j
            met[j] = met[number]
        else:
            met[i] = met[number] | first
            met[j] = met[number] | second
    return rebuilt(steps, taken)
