"""What clauses fix, as literals are taken as true one by one."""


class Fixing:
    """Clauses by their numbers, and the literals that are true so far, each with the reason for it.

    A literal is fixed where all others of a clause are false, by the number of that clause. Within, literals are
    numbers, the denial's is the name's and one; of each clause the first two literals are watched, and it is looked
    at again only where one of these becomes false.
    """

    def __init__(self, names):
        self._literals = [(name, yes) for name in names for yes in (True, False)]
        self._codes = {literal: code for code, literal in enumerate(self._literals)}
        self._rows = []
        self._short = []
        self._left_out = []
        self._watching = [[] for _ in self._literals]
        self._true = [False for _ in self._literals]
        self._reasons = [None for _ in self._literals]
        self._fixed = []
        self._done = 0

    def put(self, clause):
        """Put a clause to the others, ahead of all fixing, and tell its number."""
        number = len(self._rows)
        row = [self._codes[literal] for literal in clause]
        self._rows.append(row)
        self._left_out.append(False)
        if len(row) < 2:
            self._short.append(number)
        for code in row[:2]:
            self._watching[code].append(number)
        return number

    def leave_out(self, number, yes):
        """Leave a clause out, or take it in again."""
        self._left_out[number] = yes

    def fix(self, literal, reason):
        """Take a literal as true that isn't false."""
        self._fix(self._codes[literal], reason)

    def begin(self, limit):
        """Fix what clauses of one literal fix, numbers below the limit; the number of one that is false, or None."""
        for number in self._short:
            row = self._rows[number]
            if number >= limit or self._left_out[number]:
                continue
            if not row or self._true[row[0] ^ 1]:
                return number
            self._fix(row[0], number)
        return None

    def run(self, limit):
        """Fix what clauses fix, numbers below the limit; the number of one that is false, or None."""
        while self._done < len(self._fixed):
            false = self._fixed[self._done] ^ 1
            self._done += 1
            number = self._pass_on(false, limit)
            if number is not None:
                return number
        return None

    def take_back(self):
        """Take back the literal that became true last; it and its reason, or None where there is none."""
        if not self._fixed:
            return None
        code = self._fixed.pop()
        self._true[code] = False
        self._done = len(self._fixed)
        return self._literals[code], self._reasons[code]

    def is_fixed(self, name):
        """Whether a name is true or false so far."""
        return self._true[self._codes[(name, True)]] or self._true[self._codes[(name, False)]]

    def is_true(self, name):
        """Whether a name is true so far."""
        return self._true[self._codes[(name, True)]]

    def open_clauses(self):
        """The literals that aren't false, of each clause of which none is true."""
        true = self._true
        found = [row for row in self._rows if not any([true[code] for code in row])]
        return [[self._literals[code] for code in row if not true[code ^ 1]] for row in found]

    def _fix(self, code, reason):
        if not self._true[code]:
            self._true[code] = True
            self._reasons[code] = reason
            self._fixed.append(code)

    def _pass_on(self, false, limit):
        """Look at the clauses that watch a literal which became false; the number of one that is false, or None."""
        waiting = self._watching[false]
        kept = []
        clash = None
        for number in waiting:
            row = self._rows[number]
            if clash is not None or number >= limit or self._left_out[number]:
                kept.append(number)
                continue
            if row[0] == false:
                row[0], row[1] = row[1], false
            if self._true[row[0]] or not self._watch_another(row, number):
                kept.append(number)
                if self._true[row[0] ^ 1]:
                    clash = number
                else:
                    self._fix(row[0], number)
        self._watching[false] = kept
        return clash

    def _watch_another(self, row, number):
        """Watch a literal that isn't false in the place of the second one, if there is any."""
        for place in range(2, len(row)):
            code = row[place]
            if not self._true[code ^ 1]:
                row[1], row[place] = code, row[1]
                self._watching[code].append(number)
                return True
        return False
