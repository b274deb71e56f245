"""The errors of the package: each keeps its argument under the name that it has here."""


class KeptError(ValueError):
    """All errors of the package are below this one."""


class BadText(KeptError):
    """A text that is none of its sort; the number of its first wrong line, 0 if it is no string."""

    def __init__(self, line):
        self.line = line


class BadModel(KeptError):
    """A value that is no model of a program."""

    def __init__(self, value):
        self.value = value


class BadSheet(KeptError):
    """A value that is no sheet of a program."""

    def __init__(self, value):
        self.value = value


class BadWay(KeptError):
    """A value that is no way of a program."""

    def __init__(self, value):
        self.value = value


class BadRule(KeptError):
    """A value that is no rule."""

    def __init__(self, value):
        self.value = value


class BadPrograms(KeptError):
    """Programs that do not go together."""

    def __init__(self, value):
        self.value = value


class NoChange(KeptError):
    """Two models of which the newer one is no change of the elder one."""

    def __init__(self, value):
        self.value = value


class NotMade(KeptError):
    """The way of an edit that is not made."""

    def __init__(self, value):
        self.value = value


class BadLabel(KeptError):
    """A value that is no label of a program."""

    def __init__(self, value):
        self.value = value


class BadWish(KeptError):
    """A value that is no wish."""

    def __init__(self, value):
        self.value = value


class TooMany(KeptError):
    """A table would have more members than this number."""

    def __init__(self, number):
        self.number = number


class BadMarks(KeptError):
    """A value that is no tuple of marks for a program."""

    def __init__(self, value):
        self.value = value


class BadRules(KeptError):
    """A value that is no tuple of labels with their rules."""

    def __init__(self, value):
        self.value = value


class BadOffers(KeptError):
    """A value that is no tuple of marks with their prices."""

    def __init__(self, value):
        self.value = value


class BadField(KeptError):
    """A kind and a field that there is not."""

    def __init__(self, value):
        self.value = value


class BadEdits(KeptError):
    """A value that is no tuple of edits, or no edit."""

    def __init__(self, value):
        self.value = value


class Clash(KeptError):
    """The number of an edit of a line that an earlier one changed already."""

    def __init__(self, number):
        self.number = number


class BadOrder(KeptError):
    """The arguments of an order that cannot be done."""

    def __init__(self, value):
        self.value = value


class BadNumber(KeptError):
    """A value that is no number of an edit."""

    def __init__(self, value):
        self.value = value


class BadLine(KeptError):
    """A value that is no line for a desk."""

    def __init__(self, value):
        self.value = value


class NothingToUndo(KeptError):
    """No order is left that could be taken back."""


class NothingToRedo(KeptError):
    """No order is left that could be done again."""
