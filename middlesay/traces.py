"""Traces: lists of clauses, each of which closes by the ones ahead of it."""

from middlesay.building import Building
from middlesay.fixing import Fixing
from middlesay.literals import denied, is_clause
from middlesay.masks import names_in


def first_wrong(trace, clauses):
    """The number of the first clause of anything that makes it no right trace; None where it is one."""
    if not isinstance(trace, list):
        return 0
    told = _clauses_ahead(trace)
    closing = Closing(clauses, told)
    for number, clause in enumerate(told):
        if closing.used(clause, closing.many()) is None:
            return number
        closing.put(clause)
    if len(told) == len(trace) and trace and not trace[-1]:
        return None
    return len(told)


def _clauses_ahead(trace):
    """The clauses of a list up to the first thing that is none."""
    told = []
    for thing in trace:
        if not is_clause(thing):
            break
        told.append(thing)
    return told


class Closing:
    """Given clauses and those of a trace, by their numbers, and which of them are used where a clause closes."""

    def __init__(self, clauses, trace):
        self._fixing = Fixing(names_in(list(clauses) + trace))
        self._clauses = []
        for clause in clauses:
            self.put(clause)

    def many(self):
        """How many clauses there are."""
        return len(self._clauses)

    def put(self, clause):
        """Put a clause behind the others."""
        self._clauses.append(clause)
        self._fixing.put(clause)

    def leave_out(self, number, yes):
        """Leave a clause out, or take it in again."""
        self._fixing.leave_out(number, yes)

    def used(self, clause, limit):
        """The numbers of clauses below the limit by which a clause closes; None where it doesn't close by these.

        The last one is the one that comes to be false; those ahead are met with it, from the last one on, each on the
        literal that is told with it.
        """
        for literal in clause:
            self._fixing.fix(denied(literal), None)
        clash = self._fixing.begin(limit)
        if clash is None:
            clash = self._fixing.run(limit)
        if clash is None:
            self._take_all_back()
            return None
        return self._leading_to(clash)

    def _leading_to(self, clash):
        """Numbers of the clauses by which literals were fixed that made a clause false, with these, and its own."""
        used = [(clash, None)]
        false = {literal: True for literal in self._clauses[clash]}
        while (fixed := self._fixing.take_back()) is not None:
            literal, reason = fixed
            if reason is not None and denied(literal) in false:
                used.append((reason, literal))
                for other in self._clauses[reason]:
                    false[other] = True
        return used

    def _take_all_back(self):
        while self._fixing.take_back() is not None:
            pass


def chain_of_trace(trace, clauses):
    """The Chain of the empty clause of the given ones that a right trace tells."""
    closing = Closing(clauses, trace)
    building = Building()
    steps = []
    for clause in trace:
        step = None
        for number, literal in closing.used(clause, closing.many()):
            reason = steps[number - len(clauses)] if number >= len(clauses) else building.give_once(clauses[number])
            step = reason if step is None else building.meet_on(literal, reason, step)
        steps.append(step)
        # It may be but a part of the clause, by which no fewer close.
        closing.put(building.clause(step))
    return building.chain_to(steps[-1])


def needed(trace, clauses):
    """Numbers of clauses of a right trace that make one by themselves, and of which none can be left out."""
    closing = Closing(clauses, trace)
    for clause in trace:
        closing.put(clause)
    count = len(clauses)
    last = len(trace) - 1
    using = {last: _used_of_trace(closing, trace, last, count)}
    # From behind: what a clause that is kept needs, it needs all the more where others ahead of it are left out.
    for number in reversed(range(last)):
        users = [other for other in using if number in using[other]]
        closing.leave_out(count + number, True)
        found = {}
        for other in users:
            used = _used_of_trace(closing, trace, other, count)
            if used is None:
                closing.leave_out(count + number, False)
                found = {number: _used_of_trace(closing, trace, number, count)}
                break
            found[other] = used
        using.update(found)
    return sorted(using)


def _used_of_trace(closing, trace, number, count):
    """The numbers of clauses of the trace by which one of it closes; None where it doesn't."""
    used = closing.used(trace[number], count + number)
    if used is None:
        return None
    return {place - count: True for place, _ in used if place >= count}


def trace_of(chain):
    """The clauses of the meetings of a Chain, in their order."""
    return [clause for step, clause in zip(chain.steps(), chain.clauses()) if step[0] == "met"]
