"""How long gaps stay unseen, and at which cost."""

from holeshift.amounts import Amount, is_int, is_int_within, shared_bottom, whole_over
from holeshift.errors import BadBound, BadDay, TooMany
from holeshift.offices import need_accounts
from holeshift.rows import Row, is_amount_from_0
from holeshift.simplex import least_costs
from holeshift.weights import tells_all

MOST_DAYS = 8


class Holding:
    """The base class of what tells whether a row of some days passes; such are papers."""

    WORD = "holding"

    def __bool__(self):
        return False

    def __eq__(self, other):
        return isinstance(other, Holding) and self.WORD == other.WORD


class Held(Holding):
    """The least weight of a row that passes, such a row, and looks that show that none pays less."""

    WORD = "held"

    def __init__(self, weight, row, looks):
        self.weight = weight
        self.row = row
        self.looks = looks

    def __bool__(self):
        return True

    def __eq__(self, other):
        if not isinstance(other, Held) or not self.weight == other.weight:
            return False
        return self.row == other.row and self.looks == other.looks


class Caught(Holding):
    """Looks that show that no row passes."""

    WORD = "caught"

    def __init__(self, looks):
        self.looks = looks

    def __bool__(self):
        return False

    def __eq__(self, other):
        return isinstance(other, Caught) and self.looks == other.looks


def _need_first(office, gaps, day):
    """Raise NoAccount for gaps of another account, then BadDay for any value that is no day of the round."""
    need_accounts(office, gaps.accounts)
    if not is_int_within(day, 0, office.days - 1):
        raise BadDay(day)


def _need_days(days):
    """Raise BadDay for any value that is no integer from 1 on, TooMany for too many days."""
    if not is_int(days) or days < 1:
        raise BadDay(days)
    if days > MOST_DAYS:
        raise TooMany("days", MOST_DAYS)


def _looks_of(office, days):
    """The looks of a row of so many days from day 0 on."""
    return [(day, name) for day in range(days) for name in office.looks_on(day)]


def _found(office, gaps, days):
    """What hold tells if the gaps are those ahead of day 0."""
    places = [(day, kind) for day in range(days) for kind in office.kinds_on(day)]
    looks = _looks_of(office, days)
    moved = {(kind, name): office[name].moved_by(office[kind]) for kind in office.kinds for name in office.checks}
    rows = [[moved[(kind, name)] if on <= day else 0 for on, kind in places] for day, name in looks]
    # The search takes whole numbers, so it is asked for the gaps times their common bottom.
    bottom = shared_bottom([gaps[account] for account in gaps.accounts])
    whole = {account: whole_over(gaps[account], bottom) for account in office.accounts}
    right = [-office[name].sum_in(whole) for _, name in looks]
    values, numbers = least_costs(rows, right, [office[kind].weight for _, kind in places])
    if values is None:
        return Caught(tuple(zip(looks, [number * bottom for number in numbers])))
    shifts = [(day, kind, value.over(bottom)) for (day, kind), value in zip(places, values)]
    row = Row(office, days, shifts)
    return Held(row.weight, row, tuple(zip(looks, numbers)))


def hold(office, gaps, day, days):
    """How a row of so many days passes, if these are the gaps ahead of the shifts of a day: a Held or a Caught."""
    _need_first(office, gaps, day)
    _need_days(days)
    return _found(office << day, gaps, days)


def held_days(office, gaps, day, weight):
    """The greatest number of days, to 8, for which some row passes that pays at most this weight."""
    _need_first(office, gaps, day)
    if not is_amount_from_0(weight):
        raise BadBound(weight)
    begun = office << day
    for days in range(1, MOST_DAYS + 1):
        found = _found(begun, gaps, days)
        # More days never cost less.
        if not found or found.weight > weight:
            return days - 1
    return MOST_DAYS


def _show(office, gaps, days, looks, times, total):
    """Whether any value is looks by which each kind's changes are at most its weight, so many times.

    The gaps times the prices of day 0 must make this total, a number.
    """
    if not tells_all(looks, _looks_of(office, days)):
        return False
    bottom = shared_bottom([number for _, number in looks])
    price = {account: 0 for account in office.accounts}
    for day in range(days - 1, -1, -1):
        for look, number in looks:
            if look[0] == day:
                top, check = whole_over(number, bottom), office[look[1]]
                price = {account: so_far + top * check[account] for account, so_far in price.items()}
        for kind in office.kinds_on(day):
            shift = office[kind]
            if shift.sum_in(price) > shift.weight * times * bottom:
                return False
    return Amount.total([gaps[account] * top for account, top in price.items()]) == total * bottom


def shows_hold(office, gaps, day, days, value):
    """Whether any value is a Held or a Caught that is right for these gaps; raises as hold."""
    _need_first(office, gaps, day)
    _need_days(days)
    begun = office << day
    if isinstance(value, Caught):
        return _show(begun, gaps, days, value.looks, 0, -1)
    if not isinstance(value, Held) or not Amount.is_number(value.weight) or not isinstance(value.row, Row):
        return False
    row = value.row
    if row.days != days or not row.twin_office() == begun or not row.passes(gaps) or row.weight != value.weight:
        return False
    return _show(begun, gaps, days, value.looks, 1, -value.weight)
