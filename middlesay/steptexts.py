"""Clauses as texts."""


def _show_literal(literal):
    return literal[0] if literal[1] else f"-{literal[0]}"


def show_clause(clause):
    """The text of a clause."""
    if not clause:
        return "."
    return " ".join([_show_literal(literal) for literal in clause])
