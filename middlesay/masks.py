"""Clauses as whole numbers, a bit for each literal."""


def masks_of(names):
    """The bit of each literal of these names; the denial's is the one above the name's."""
    masks = {}
    for place, name in enumerate(names):
        masks[(name, True)] = 1 << 2 * place
        masks[(name, False)] = 2 << 2 * place
    return masks


def mask_of(clause, masks):
    """The bits of a clause's literals."""
    return sum([masks[literal] for literal in clause])


def names_in(clauses):
    """The names that stand in clauses, sorted."""
    return sorted({literal[0] for clause in clauses for literal in clause})
