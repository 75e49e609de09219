"""The refusals, each made of its field alone."""


class NoText(ValueError):
    """What was read is no such text; row is the number of the first row that is wrong."""

    def __init__(self, row):
        self.row = row


class NoChain(ValueError):
    """A chain isn't one that can be taken here; why tells it in words."""

    def __init__(self, why):
        self.why = why


class NoTree(ValueError):
    """Parts don't hang on a tree; why tells it in words."""

    def __init__(self, why):
        self.why = why


class NoWay(ValueError):
    """A way doesn't go on this tree; why tells it in words."""

    def __init__(self, why):
        self.why = why


class NoRow(ValueError):
    """A row of several is refused; row is its number."""

    def __init__(self, row):
        self.row = row


class NoName(KeyError):
    """A name is lacking, or isn't to be there; name is the least such one."""

    def __init__(self, name):
        self.name = name


class NoLabel(KeyError):
    """A label is lacking, or isn't to be there; label is that one."""

    def __init__(self, label):
        self.label = label


class NoStep(IndexError):
    """Steps make no chain; step is the number of the first one that is none."""

    def __init__(self, step):
        self.step = step


class NoMark(LookupError):
    """A mark is none, or stands where none can; spot is the least such (step, name)."""

    def __init__(self, spot):
        self.spot = spot


class NoOrder(LookupError):
    """A labelling is above the other one; spot is the least such (step, name)."""

    def __init__(self, spot):
        self.spot = spot


class NoClash(LookupError):
    """There is no clash; row is one in which all is true."""

    def __init__(self, row):
        self.row = row


class TooGreat(OverflowError):
    """What would be told is greater than most."""

    def __init__(self, most):
        self.most = most


class TooMany(OverflowError):
    """What was handed in is more than most."""

    def __init__(self, most):
        self.most = most
