"""Blind places: gaps of which no check sees anything."""

from holeshift.errors import NoCheck
from holeshift.gaps import Gaps
from holeshift.spans import is_sum, multiples_of
from holeshift.weights import tells_all


class Place:
    """The base class of what tells whether an office has a blind place; such are papers."""

    WORD = "place"

    def __bool__(self):
        return False

    def __eq__(self, other):
        return isinstance(other, Place) and self.WORD == other.WORD


class Blind(Place):
    """Gaps with the hole 1 of which each check sees 0."""

    WORD = "blind"

    def __init__(self, gaps):
        self.gaps = gaps

    def __bool__(self):
        return True

    def __eq__(self, other):
        return isinstance(other, Blind) and self.gaps == other.gaps


class Pinned(Place):
    """Multiples of the checks that add up to 1 for each account."""

    WORD = "pinned"

    def __init__(self, multiples):
        self.multiples = multiples

    def __bool__(self):
        return False

    def __getitem__(self, name):
        for own, amount in self.multiples:
            if own == name:
                return amount
        raise NoCheck(name)

    def __iter__(self):
        # Without this, Python would ask for the multiples of 0, 1 and so on.
        raise TypeError("what is pinned is not iterated over; take its multiples")

    def __eq__(self, other):
        return isinstance(other, Pinned) and self.multiples == other.multiples


def coefficients(office, checks):
    """The coefficients of all accounts of the office, ascending, in each of these checks of it."""
    return [[office[name][account] for account in office.accounts] for name in checks]


def ones(office):
    """The number 1 for each account."""
    return [1 for _ in office.accounts]


def is_unseen(office, gaps, checks):
    """Whether any value is Gaps of accounts of the office alone, with the hole 1, of which these checks see 0."""
    if not isinstance(gaps, Gaps) or not all([account in office.accounts for account in gaps.accounts]):
        return False
    return bool(gaps.hole == 1) and all([office[name].sum_of(gaps) == 0 for name in checks])


def blind(office):
    """A Blind if the office has a blind place, otherwise a Pinned."""
    multiples, numbers = multiples_of(coefficients(office, office.checks), ones(office))
    if multiples is None:
        return Blind(Gaps({account: number for account, number in zip(office.accounts, numbers)}))
    return Pinned(tuple(zip(office.checks, multiples)))


def shows_blind(office, value):
    """Whether any value is a Blind or a Pinned that is right for the office."""
    if isinstance(value, Blind):
        return is_unseen(office, value.gaps, office.checks)
    if not isinstance(value, Pinned) or not tells_all(value.multiples, office.checks):
        return False
    amounts = [amount for _, amount in value.multiples]
    return is_sum(list(zip(coefficients(office, office.checks), amounts)), ones(office))
