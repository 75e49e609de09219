"""A desk that keeps sayings by labels on two sides, and answers as one that is told all anew."""

from middlesay.deciding import clashing, clauses_of_sides, names_of_sides, one_behind_the_other
from middlesay.errors import NoClash, NoLabel, NoRow
from middlesay.middles import Middle
from middlesay.sayings import is_saying
from middlesay.search import search
from middlesay.tables import table
from middlesay.words import is_word

ACROSS = {"one": "other", "other": "one"}


class Desk:
    """Sayings by labels on the sides one and other, and what was done to them."""

    def __init__(self):
        self._kept = {}
        # For each deed that wasn't undone its label, and what stood there ahead of it: a side and a saying, or None.
        self._ahead = []
        self._done = 0

    def put(self, label, side, saying):
        """Put a saying on a side, by a label that isn't there."""
        if label in self._kept:
            raise NoLabel(label)
        self._change(label, (side, saying))

    def drop(self, label):
        """Drop the saying of a label."""
        self._refuse_lacking(label)
        self._change(label, None)

    def move(self, label):
        """Move the saying of a label to the other side."""
        self._refuse_lacking(label)
        side, saying = self._kept[label]
        self._change(label, (ACROSS[side], saying))

    def undo(self):
        """Make it as it was ahead of the last put, drop or move that wasn't undone."""
        if not self._ahead:
            raise NoLabel("undo")
        self._take_back()
        self._done += 1

    def several(self, rows):
        """Do several puts, drops and moves one behind the other, or none of them."""
        count, done = len(self._ahead), self._done
        try:
            # Each row is looked at only when it is come to, so that the first one refused or none decides.
            for number, row in enumerate(rows):
                if not _is_deed(row):
                    raise NoRow(number)
                self._do(row)
        except (NoLabel, NoRow):
            while len(self._ahead) > count:
                self._take_back()
            self._done = done
            raise

    def labels(self):
        """The labels, sorted, each with its side."""
        return sorted([(label, self._kept[label][0]) for label in self._kept])

    def clash(self, *, most=5000):
        """Labels of sayings that clash, sorted, of which none can be left out; None where all can be true."""
        told = self._decided(most)
        return None if told[0] == "row" else told[1]

    def truth(self, *, most=5000):
        """A row of all names in which all sayings hold; None where there is none."""
        told = self._decided(most)
        return told[1] if told[0] == "row" else None

    def middle(self, *, way="both", most=5000):
        """A saying over shared names that the one side gives and that clashes with the other."""
        told = self._decided(most)
        if told[0] == "row":
            raise NoClash(told[1])
        _, _, one, other, chain = told
        return Middle(chain, one, other, way=way).saying()

    def deeds(self):
        """How many puts, drops, moves and undos were done."""
        return self._done

    def _refuse_lacking(self, label):
        if label not in self._kept:
            raise NoLabel(label)

    def _change(self, label, now):
        self._ahead.append((label, self._kept.get(label)))
        self._set(label, now)
        self._done += 1

    def _take_back(self):
        label, ahead = self._ahead.pop()
        self._set(label, ahead)

    def _set(self, label, now):
        if now is None:
            del self._kept[label]
        else:
            self._kept[label] = now

    def _do(self, row):
        """Do what a row tells."""
        if row[0] == "put":
            self.put(row[1], row[2], row[3])
        elif row[0] == "drop":
            self.drop(row[1])
        else:
            self.move(row[1])

    def _decided(self, most):
        """("row", row) in which all hold, or ("clash", labels, one side's clauses, the other's, Chain).

        Labels are gone through sorted, so that it is nothing in which order they came to be there.
        """
        sides = [[label for label, side in self.labels() if side == own] for own in ("one", "other")]
        labels = sides[0] + sides[1]
        ones, others = [[self._kept[label][1] for label in side] for side in sides]
        names = names_of_sides(ones, others)
        places = clashing([table(saying, names) for saying in ones + others], (1 << (1 << len(names))) - 1)
        one, other = clauses_of_sides(ones, others)
        lists = one + other
        needed = [lists[place] for place in places] if places else lists
        word, told = search(one_behind_the_other(needed), order=tuple(names), most=most)
        if word == "row":
            return ("row", {name: told[name] for name in names})
        clashing_labels = sorted([labels[place] for place in places])
        return ("clash", clashing_labels, one_behind_the_other(one), one_behind_the_other(other), told)


def _is_deed(row):
    """Whether anything tells a put, a drop or a move."""
    if not isinstance(row, tuple) or len(row) not in (2, 4) or not is_word(row[1]):
        return False
    if len(row) == 2:
        return row[0] in ("drop", "move")
    return row[0] == "put" and row[2] in ("one", "other") and is_saying(row[3])
