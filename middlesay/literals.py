"""What a clause is, and whether it is true in a row."""

from middlesay.words import is_word, refuse_lacking

FIGURES = "0123456789"
MOST_SIGNS = 12


def is_name(thing):
    """Whether anything is a clause's name: a word, or a fresh name."""
    if not isinstance(thing, str) or len(thing) > MOST_SIGNS:
        return False
    return is_word(thing.rstrip(FIGURES))


def _is_literal(thing):
    if not isinstance(thing, tuple) or len(thing) != 2:
        return False
    return is_name(thing[0]) and isinstance(thing[1], bool)


def is_clause(thing):
    """Whether anything is a clause."""
    if not isinstance(thing, tuple) or not all([_is_literal(literal) for literal in thing]):
        return False
    # No name stands twice in a clause, so the names alone have to rise.
    return all([literal[0] < behind[0] for literal, behind in zip(thing, thing[1:])])


def is_true(clause, row):
    """Whether a clause is true in a row of truth."""
    refuse_lacking([literal[0] for literal in clause], row)
    return any([row[name] == yes for name, yes in clause])


def is_part(clause, other):
    """Whether all literals of a clause stand in the other one."""
    return all([literal in other for literal in clause])


def denied(literal):
    """The literal that is true just where this one isn't."""
    return (literal[0], not literal[1])


def clause_of(literals):
    """The clause of literals in any order, some maybe twice; None where a name stands both ways."""
    signs = {}
    for name, yes in literals:
        if signs.setdefault(name, yes) != yes:
            return None
    return tuple(sorted(signs.items()))
