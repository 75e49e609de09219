"""Clauses, Chains, traces and search trees read from texts, and the texts of the last two."""

from middlesay.chains import Chain
from middlesay.errors import NoStep, NoText
from middlesay.literals import FIGURES, is_clause, is_name
from middlesay.steptexts import show_clause
from middlesay.trees import MOST_ON_A_WAY

# No Chain has so many steps that a step's number has more figures.
MOST_FIGURES = 9


def read_clause(text):
    """The clause whose text this is."""
    clause = _clause_of(text) if isinstance(text, str) else None
    if clause is None:
        raise NoText(0)
    return clause


def _clause_of(row):
    """The clause of a row; None where it is none's text."""
    if row == ".":
        return ()
    words = row.split(" ")
    clause = tuple([(word[1:], False) if word.startswith("-") else (word, True) for word in words])
    return clause if is_clause(clause) else None


def read_chain(text):
    """The Chain whose text this is."""
    rows = _rows_of(text)
    try:
        # A row that is no step's text is told as None, and no step either.
        return Chain([_step_of(row) for row in rows])
    except NoStep as wrong:
        raise NoText(wrong.step)


def _rows_of(text):
    """The rows of a text; what is none is refused."""
    if not isinstance(text, str):
        raise NoText(0)
    return text.split("\n")


def _step_of(row):
    """The step of a row; None where it is none's text."""
    word, _, rest = row.partition(" ")
    if word == "given":
        clause = _clause_of(rest)
        return None if clause is None else ("given", clause)
    words = rest.split(" ")
    if word == "met" and len(words) == 3 and _is_number(words[0]) and _is_number(words[1]):
        return ("met", int(words[0]), int(words[1]), words[2])
    return None


def _is_number(word):
    """Whether a word is the text of a step's number."""
    if not 1 <= len(word) <= MOST_FIGURES or (word[0] == "0" and word != "0"):
        return False
    return all([sign in FIGURES for sign in word])


def show_trace(trace):
    """The text of a trace."""
    return "\n".join([show_clause(clause) for clause in trace])


def read_trace(text):
    """The trace whose text this is."""
    trace = []
    for row in _rows_of(text):
        clause = _clause_of(row)
        if clause is None:
            raise NoText(len(trace))
        trace.append(clause)
    return trace


def show_tree(tree):
    """The text of a search tree."""
    rows = []
    waiting = [tree]
    while waiting:
        part = waiting.pop()
        if part[0] == "end":
            rows.append(f"end {show_clause(part[1])}")
        else:
            rows.append(f"ask {part[1]}")
            waiting.extend([part[3], part[2]])
    return "\n".join(rows)


def read_tree(text):
    """The search tree whose text this is."""
    rows = _rows_of(text)
    # The asks that aren't whole yet, the outermost first: the name, and the tree of yes if it was read.
    asked = []
    for number, row in enumerate(rows):
        word, _, rest = row.partition(" ")
        if word == "ask" and is_name(rest) and len(asked) < MOST_ON_A_WAY:
            asked.append([rest])
            continue
        clause = _clause_of(rest) if word == "end" else None
        if clause is None:
            raise NoText(number)
        tree = _whole_tree(asked, ("end", clause))
        if tree is not None:
            if number + 1 < len(rows):
                raise NoText(number + 1)
            return tree
    raise NoText(len(rows))


def _whole_tree(asked, tree):
    """The whole tree, where this one is the last of it; else None, and it is put to the asks that it belongs to."""
    while asked:
        asked[-1].append(tree)
        if len(asked[-1]) < 3:
            return None
        name, yes, no = asked.pop()
        tree = ("ask", name, yes, no)
    return tree
