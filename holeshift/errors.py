"""The errors of the package.

Each error keeps its fields as attributes and looks at nothing, so that a wrong value of any kind can be told.
"""


class ShiftError(ValueError):
    """The base of all errors of the package."""


class BadInput(ShiftError):
    """The base of the errors that tell a wrong value."""


class Refused(ShiftError):
    """The base of the errors that tell what cannot be done to an object as it is."""


class NoAnswer(ShiftError):
    """The base of the errors that tell what does not exist."""


class Looked(ShiftError):
    """A check has seen a sum other than 0; it is the cause of a Seen."""

    def __init__(self, check, amount):
        self.check = check
        self.amount = amount


class BadName(BadInput):
    """A value is no name."""

    def __init__(self, value):
        self.value = value


class BadAmount(BadInput):
    """A value is no number, or not one that is asked for."""

    def __init__(self, value):
        self.value = value


class BadDay(BadInput):
    """A value is no day that is asked for."""

    def __init__(self, value):
        self.value = value


class BadItem(BadInput):
    """A part of an item is wrong."""

    def __init__(self, part):
        self.part = part


class BadOffice(BadInput):
    """A part of an office is wrong."""

    def __init__(self, part):
        self.part = part


class BadGaps(BadInput):
    """A value tells no gaps."""

    def __init__(self, value):
        self.value = value


class BadRow(BadInput):
    """A part of a row is wrong."""

    def __init__(self, part):
        self.part = part


class BadBound(BadInput):
    """A value is no bound."""

    def __init__(self, value):
        self.value = value


class BadLook(BadInput):
    """The look at this index is wrong."""

    def __init__(self, at):
        self.at = at


class BadMenu(BadInput):
    """A menu is wrong, at this index if it is a list or tuple."""

    def __init__(self, at):
        self.at = at


class BadText(BadInput):
    """A text has a word that cannot stand, or lacks one."""

    def __init__(self, line, word):
        self.line = line
        self.word = word


class BadLine(BadInput):
    """A line of a desk has a word that cannot stand, or lacks one."""

    def __init__(self, word):
        self.word = word


class NoAccount(Refused):
    """There is no account of this name."""

    def __init__(self, name):
        self.name = name


class NoItem(Refused):
    """There is no item of this name."""

    def __init__(self, name):
        self.name = name


class NoKind(Refused):
    """There is no kind of shifts of this name."""

    def __init__(self, name):
        self.name = name


class NoCheck(Refused):
    """There is no check of this name."""

    def __init__(self, name):
        self.name = name


class InUse(Refused):
    """An item has this day."""

    def __init__(self, day):
        self.day = day


class Clash(Refused):
    """Two unlike things would have this name."""

    def __init__(self, name):
        self.name = name


class Unlike(Refused):
    """Two offices are unlike in this part."""

    def __init__(self, part):
        self.part = part


class TooMany(Refused):
    """There would be more of something than the most."""

    def __init__(self, what, most):
        self.what = what
        self.most = most


class Seen(Refused):
    """A check sees something on this day of the round."""

    def __init__(self, day):
        self.day = day


class NoDivisor(NoAnswer):
    """Nothing is divided by 0."""


class NoDeed(NoAnswer):
    """There is no deed to take back."""


class NoOffice(NoAnswer):
    """A desk has no office yet."""


class NoBook(NoAnswer):
    """A desk has no book yet."""
