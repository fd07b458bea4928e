"""Sums of gaps with integer coefficients, and days of a round."""

from holeshift.amounts import is_int_within, sum_of_products
from holeshift.errors import BadDay, BadItem
from holeshift.names import is_name


def wrong_part(parts):
    """What is wrong with any value as the parts of a Linear, or None if nothing is."""
    if not isinstance(parts, dict):
        return "parts"
    if not all([is_name(account) for account in parts]):
        return "account"
    if not all([is_int_within(part, -Linear.MOST, Linear.MOST) and part != 0 for part in parts.values()]):
        return "part"
    return None


def ascending_days(days):
    """The ascending tuple of these days, each once; raises BadDay(day) with the first value that is no day."""
    for day in days:
        if not is_int_within(day, 0, Dated.LAST):
            raise BadDay(day)
    return tuple(sorted(set([int(day) for day in days])))


class Linear:
    """A sum of gaps with integer coefficients. It never changes."""

    MOST = 9
    # A class below has its own word, so that a Linear equals no Item.
    WORD = "linear"

    def __init__(self, parts):
        wrong = wrong_part(parts)
        if wrong is not None:
            raise BadItem(wrong)
        self._parts = {account: parts[account] for account in sorted([str(account) for account in parts])}

    @property
    def accounts(self):
        """The ascending tuple of its accounts."""
        return tuple(self._parts)

    def __getitem__(self, account):
        if account not in self:
            return 0
        return self._parts[account]

    def __iter__(self):
        # Without this, Python would ask for the coefficients of 0, 1 and so on.
        raise TypeError("a sum of gaps is not iterated over; take its accounts")

    def __contains__(self, account):
        return isinstance(account, str) and account in self._parts

    def __len__(self):
        return len(self._parts)

    def sum_of(self, gaps):
        """The sum of all coefficients times the gaps of their accounts."""
        return sum_of_products([(gaps[account], part) for account, part in self._parts.items() if account in gaps])

    def sum_in(self, numbers):
        """The sum of all coefficients times the integers of their accounts in a dict."""
        return sum([part * numbers[account] for account, part in self._parts.items()])

    def __neg__(self):
        return Linear({account: -part for account, part in self._parts.items()})

    def __eq__(self, other):
        return isinstance(other, Linear) and self.WORD == other.WORD and self._parts == other._parts


class Dated:
    """Some days of a round. It never changes."""

    LAST = 4

    def __init__(self, *days):
        self._days = ascending_days(days)

    @property
    def days(self):
        """The ascending tuple of its days, each once."""
        return self._days

    @property
    def is_daily(self):
        """Whether it has no days, and so falls on each one."""
        return not self._days

    def falls_on(self, day):
        """Whether any value is one of its days; without days, whether it is any day of a round."""
        return is_int_within(day, 0, Dated.LAST) and (self.is_daily or day in self._days)
