"""Looks at papers, without a search."""

from holeshift.amounts import Amount, is_int_within
from holeshift.gaps import Gaps
from holeshift.prices import Blocked, Lasting, Limited
from holeshift.rows import Row
from holeshift.weights import has_form


def _is_theft(office, days, value):
    """Whether any value is a tuple of a day of so many, an account of the office and a number above 0."""
    if not isinstance(value, tuple) or len(value) != 3:
        return False
    day, account, number = value
    if not is_int_within(day, 0, days - 1) or account not in office.accounts:
        return False
    return Amount.is_number(number) and bool(number > 0)


def _taken(thefts, last):
    """What the thefts to this day, its own ones too, add to the gaps."""
    found = Gaps()
    for day, account, number in thefts:
        if day <= last:
            found = found + Gaps.lone(account, number)
    return found


class Looker:
    """Looks at papers for an office as it was when the looker was made."""

    def __init__(self, office):
        self._office = office.twin()

    def __call__(self, answer):
        if isinstance(answer, Lasting):
            if not self.lasts(answer.gaps, answer.row) or not isinstance(answer.rate, Amount):
                return False
            return answer.rate == answer.row.weight and self.bears(answer.weights, answer.rate)
        if not isinstance(answer, Limited) or not self.limits(answer.weights):
            return False
        return not isinstance(answer, Blocked) or all([end == 0 for _, end in answer.weights.ends])

    def lasts(self, gaps, row):
        """Whether any values are the gaps and the row of a plan."""
        if not self._are_told(gaps, row) or row.days != self._office.days or gaps.hole != 1:
            return False
        ends = [self._office[name].sum_of(row.change) for name in self._office.checks]
        return row.passes(gaps) and all([end == 0 for end in ends])

    def bears(self, weights, rate):
        """Whether any values are weights and a number that they bear."""
        return self._holds(weights, rate, 1)

    def limits(self, weights):
        """Whether any value is weights that limit."""
        return self._holds(weights, 1, 0)

    def least(self, weights, rate, gaps, row, thefts=()):
        """What the main statement says that a row with these thefts pays at least; None where it says nothing."""
        if not self.bears(weights, rate) or not self._are_told(gaps, row) or not isinstance(thefts, (list, tuple)):
            return None
        if not all([_is_theft(self._office, row.days, theft) for theft in thefts]):
            return None
        if not self._passes(gaps, row, thefts):
            return None
        last = row.last(gaps) + _taken(thefts, row.days)
        worths = [self._worth(weights, rate, row.days, last), -self._worth(weights, rate, 0, gaps)]
        for day, account, number in thefts:
            worths.append(-self._worth(weights, rate, day, Gaps.lone(account, number)))
        return Amount.total(worths)

    def _are_told(self, gaps, row):
        """Whether any values are gaps of accounts of the office and a row of it."""
        if not isinstance(gaps, Gaps) or not isinstance(row, Row):
            return False
        return row.twin_office() == self._office and all([name in self._office.accounts for name in gaps.accounts])

    def _holds(self, weights, number, times):
        """Whether any values are weights and a number that they bear if each kind has its weight so many times."""
        office = self._office
        if not has_form(weights, office):
            return False
        for day in range(office.days):
            prices = Gaps(weights.prices(office, day))
            for kind in office.kinds_on(day):
                if office[kind].sum_of(prices) > office[kind].weight * times:
                    return False
        first, last = weights.prices(office, 0), weights.prices(office, office.days)
        # An Amount equals nothing but a number.
        return all([last[account] - first[account] == number for account in office.accounts])

    def _passes(self, gaps, row, thefts):
        """Whether a row passes from the gaps with these thefts."""
        for day, behind in enumerate(list(row.after(gaps))):
            there = behind + _taken(thefts, day)
            if any([self._office[name].sum_of(there) != 0 for name in self._office.looks_on(day)]):
                return False
        return True

    def _worth(self, weights, rate, day, gaps):
        """The sum of the gaps times the prices ahead of the looks of a day of a row, by weights that bear the rate."""
        # The prices of all accounts grow by the rate in each round.
        prices = weights.prices(self._office, day % self._office.days)
        grown = rate * (day // self._office.days)
        return Amount.total([gaps[account] * (prices[account] + grown) for account in self._office.accounts])
