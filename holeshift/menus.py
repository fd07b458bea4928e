"""Which further looks bar what is missing from being shifted for ever."""

from holeshift.amounts import is_int
from holeshift.bounds import is_below, need_bound, shows_none, shows_plan
from holeshift.choices import least_sets, shows_least
from holeshift.errors import BadMenu, TooMany
from holeshift.offices import Office
from holeshift.prices import price

MOST_LOOKS = 5


def _has_look(looks, value):
    """Whether any value is one of these looks; False is no day."""
    return isinstance(value, tuple) and len(value) == 2 and is_int(value[0]) and value in looks


def _equal(one, other):
    """Whether two sets of looks have equal attributes."""
    return one.looks == other.looks and one.answer == other.answer and one.less == other.less


class Choice:
    """The base class of the sets of looks, which are papers."""

    WORD = "choice"

    def __init__(self, looks, answer, less):
        self.looks = looks
        self.answer = answer
        self.less = less

    def __len__(self):
        return len(self.looks)

    def __contains__(self, look):
        return _has_look(self.looks, look)

    def __eq__(self, other):
        return isinstance(other, Choice) and self.WORD == other.WORD and _equal(self, other)


class Watch(Choice):
    """A least set of further looks with which no plan is below a bound."""

    WORD = "watch"

    def __init__(self, looks, answer, less):
        super().__init__(looks, answer, less)

    def __len__(self):
        return len(self.looks)

    def __contains__(self, look):
        return _has_look(self.looks, look)

    def __eq__(self, other):
        return isinstance(other, Watch) and _equal(self, other)


class Slip(Choice):
    """A least set of looks of a menu such that with all others there is a plan below a bound."""

    WORD = "slip"

    def __init__(self, looks, answer, less):
        super().__init__(looks, answer, less)

    def __len__(self):
        return len(self.looks)

    def __contains__(self, look):
        return _has_look(self.looks, look)

    def __eq__(self, other):
        return isinstance(other, Slip) and _equal(self, other)


def _ascending(office, looks):
    """The ascending tuple of these looks of checks of the office."""
    return tuple([(day, name) for day in range(office.days) for name in office.checks if (day, name) in looks])


def _menu_of(office, menu, bound):
    """The ascending tuple of the looks of a menu; raises BadBound, BadMenu, TooMany."""
    need_bound(bound)
    if not isinstance(menu, (list, tuple)):
        raise BadMenu(None)
    for at, look in enumerate(menu):
        if not office.can_look(look) or look in office.looks or look in menu[:at]:
            raise BadMenu(at)
    if len(menu) > MOST_LOOKS:
        raise TooMany("menu", MOST_LOOKS)
    if len(office.looks) + len(menu) > Office.LOOKS:
        raise TooMany("looks", Office.LOOKS)
    return _ascending(office, menu)


def _with_others(office, menu, looks):
    """The office with all looks of the menu but for these."""
    others = [look for look in menu if look not in looks]
    return office.with_looks(*others)


def watches(office, menu, *, bound=None):
    """The list of the Watches: the least sets of looks of the menu with which no plan is below the bound."""
    found = least_sets(
        _menu_of(office, menu, bound),
        lambda looks: price(office.with_looks(*looks)),
        lambda answer: not is_below(answer, bound),
    )
    return [Watch(looks, answer, less) for looks, answer, less in found]


def slips(office, menu, *, bound=None):
    """The list of the Slips: the least sets of looks of the menu but for which a plan is below the bound."""
    parts = _menu_of(office, menu, bound)
    found = least_sets(
        parts,
        lambda looks: price(_with_others(office, parts, looks)),
        lambda answer: is_below(answer, bound),
    )
    return [Slip(looks, answer, less) for looks, answer, less in found]


def fewest_looks(office, menu, *, bound=None):
    """The first Watch; None if there is none."""
    found = watches(office, menu, bound=bound)
    return found[0] if found else None


def _are_looks(office, menu, value):
    """Whether any value is an ascending tuple of looks of the menu."""
    if not isinstance(value, tuple) or not all([_has_look(menu, look) for look in value]):
        return False
    return value == _ascending(office, value)


def shows_watch(office, menu, value, *, bound=None):
    """Whether any value is a Watch that is right for the office and the menu."""
    parts = _menu_of(office, menu, bound)
    if not isinstance(value, Watch) or not _are_looks(office, parts, value.looks):
        return False
    return shows_least(
        value.looks, value,
        lambda looks: office.with_looks(*looks),
        lambda part, answer: shows_none(part, answer, bound),
        lambda some, answer: shows_plan(some, answer, bound),
    )


def shows_slip(office, menu, value, *, bound=None):
    """Whether any value is a Slip that is right for the office and the menu."""
    parts = _menu_of(office, menu, bound)
    if not isinstance(value, Slip) or not _are_looks(office, parts, value.looks):
        return False
    return shows_least(
        value.looks, value,
        lambda looks: _with_others(office, parts, looks),
        lambda part, answer: shows_plan(part, answer, bound),
        lambda some, answer: shows_none(some, answer, bound),
    )
