"""Whether one office sees whatever another one does; only the looks of both count."""

from holeshift.amounts import is_int_within
from holeshift.blinds import coefficients, is_unseen, ones
from holeshift.errors import Unlike
from holeshift.gaps import Gaps
from holeshift.spans import is_sum, multiples_of
from holeshift.weights import is_key, tells_all


class Comparison:
    """The base class of what tells whether an office misses a look of another one; such are papers."""

    WORD = "comparison"

    def __bool__(self):
        return False

    def __eq__(self, other):
        return isinstance(other, Comparison) and self.WORD == other.WORD


class Miss(Comparison):
    """A look that is missed, and the gaps of each day by which it is."""

    WORD = "miss"

    def __init__(self, day, name, rows):
        self.day = day
        self.name = name
        self.rows = rows

    def __bool__(self):
        return False

    def __eq__(self, other):
        if not isinstance(other, Miss) or not self.day == other.day or not self.name == other.name:
            return False
        return self.rows == other.rows


class Sure(Comparison):
    """A day on which each hole is seen, and the multiples of its looks that add up to 1 for each account."""

    WORD = "sure"

    def __init__(self, day, multiples):
        self.day = day
        self.multiples = multiples

    def __bool__(self):
        return True

    def __eq__(self, other):
        return isinstance(other, Sure) and self.day == other.day and self.multiples == other.multiples


class Sums(Comparison):
    """Each look of the other office as a sum of multiples of the looks of the one on its day."""

    WORD = "sums"

    def __init__(self, table):
        self.table = table

    def __bool__(self):
        return True

    def __eq__(self, other):
        return isinstance(other, Sums) and self.table == other.table


def _need_alike(one, other):
    """Raise Unlike for offices of other accounts or days."""
    if one.accounts != other.accounts:
        raise Unlike("accounts")
    if one.days != other.days:
        raise Unlike("days")


def _vectors_on(office, day):
    """The coefficients of the looks of a day."""
    return coefficients(office, office.looks_on(day))


def _vector(office, name):
    """The coefficients of a check."""
    return coefficients(office, [name])[0]


def _gaps_by(office, numbers):
    """The Gaps of the accounts of the office, ascending, that are these numbers."""
    return Gaps({account: number for account, number in zip(office.accounts, numbers)})


def _unseen_gaps(one, day):
    """Gaps with the hole 1 of which each look of a day sees 0."""
    return _gaps_by(one, multiples_of(_vectors_on(one, day), ones(one))[1])


def _missed_gaps(one, day, check, numbers):
    """Gaps with the hole 1 of which each look of a day sees 0, but this check something else.

    It sees 1 of the gaps that are these numbers, of which the looks see 0, too.
    """
    unseen = _unseen_gaps(one, day)
    if check.sum_of(unseen) != 0:
        return unseen
    gaps = _gaps_by(one, numbers)
    if gaps.hole != 0:
        return gaps.over(gaps.hole)
    return unseen + gaps


def _told(office, day, multiples):
    """The multiples of the looks of a day, with their names."""
    return tuple(zip(office.looks_on(day), multiples))


def misses(one, other):
    """A Miss for the first look of the other office that the one misses; if it misses none, a Sure or a Sums."""
    _need_alike(one, other)
    for day in range(one.days):
        multiples = multiples_of(_vectors_on(one, day), ones(one))[0]
        if multiples is not None:
            return Sure(day, _told(one, day, multiples))
    table = []
    for day, name in other.looks:
        multiples, numbers = multiples_of(_vectors_on(one, day), _vector(other, name))
        if multiples is None:
            missed = _missed_gaps(one, day, other[name], numbers)
            return Miss(day, name, tuple([missed if at == day else _unseen_gaps(one, at) for at in range(one.days)]))
        table.append((day, name, _told(one, day, multiples)))
    return Sums(tuple(table))


def _are_multiples(office, day, value, aim):
    """Whether any value is multiples of the looks of a day, as told, whose sum is the aim."""
    if not tells_all(value, office.looks_on(day)):
        return False
    amounts = [amount for _, amount in value]
    return is_sum(list(zip(_vectors_on(office, day), amounts)), aim)


def _shows_miss(one, other, day, name, rows):
    """Whether any values are a look of the other office, and gaps of each day by which it is missed."""
    if not other.can_look((day, name)) or (day, name) not in other.looks:
        return False
    if not isinstance(rows, tuple) or len(rows) != one.days:
        return False
    if not all([is_unseen(one, gaps, one.looks_on(at)) for at, gaps in enumerate(rows)]):
        return False
    return bool(other[name].sum_of(rows[day]) != 0)


def _shows_sums(one, other, table):
    """Whether any value is a table as in a Sums."""
    looks = other.looks
    if not isinstance(table, tuple) or len(table) != len(looks):
        return False
    for line, (day, name) in zip(table, looks):
        if not isinstance(line, tuple) or len(line) != 3 or not is_key(line[:2], (day, name)):
            return False
        if not _are_multiples(one, day, line[2], _vector(other, name)):
            return False
    return True


def shows_misses(one, other, value):
    """Whether any value is a Miss, a Sure or a Sums that is right for the offices; raises as misses."""
    _need_alike(one, other)
    if isinstance(value, Miss):
        return _shows_miss(one, other, value.day, value.name, value.rows)
    if isinstance(value, Sure):
        if not is_int_within(value.day, 0, one.days - 1):
            return False
        return _are_multiples(one, value.day, value.multiples, ones(one))
    return isinstance(value, Sums) and _shows_sums(one, other, value.table)
