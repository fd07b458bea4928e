"""Looks at papers, without a search."""

from holeshift.amounts import Amount, is_int_within, sum_of_products
from holeshift.gaps import Gaps
from holeshift.prices import Blocked, Lasting, Limited
from holeshift.rows import Row, Walk
from holeshift.weights import Prices, has_form


def _is_theft(office, days, value):
    """Whether any value is a tuple of a day of so many, an account of the office and a number above 0."""
    if not isinstance(value, tuple) or len(value) != 3:
        return False
    day, account, number = value
    if not is_int_within(day, 0, days - 1) or account not in office.accounts:
        return False
    return Amount.is_number(number) and bool(number > 0)


def _moves(row, thefts):
    """What moves the gaps on the days of a row with thefts, as a Walk takes it."""
    taken = [(day, account, Amount.of(number), 1) for day, account, number in thefts]
    moves = [*row.moves(), *taken]
    return [move for day in range(row.days) for move in moves if move[0] == day] if taken else moves


class Looker:
    """Looks at papers for an office as it was when the looker was made."""

    def __init__(self, office):
        self._office = office.twin()

    def __call__(self, answer):
        if isinstance(answer, Lasting):
            if not self.lasts(answer.gaps, answer.row) or not isinstance(answer.rate, Amount):
                return False
            return answer.rate == answer.row.weight and self.bears(answer.weights, answer.rate)
        if not isinstance(answer, Limited) or not self.limits(answer.weights):
            return False
        return not isinstance(answer, Blocked) or all([end == 0 for _, end in answer.weights.ends])

    def lasts(self, gaps, row):
        """Whether any values are the gaps and the row of a plan."""
        if not self._are_told(gaps, row) or row.days != self._office.days or gaps.hole != 1:
            return False
        change = row.change
        ends = [self._office[name].sum_of(change) for name in self._office.checks]
        return row.passes(gaps) and all([end == 0 for end in ends])

    def bears(self, weights, rate):
        """Whether any values are weights and a number that they bear."""
        return self._holds(weights, rate, 1)

    def limits(self, weights):
        """Whether any value is weights that limit."""
        return self._holds(weights, 1, 0)

    def least(self, weights, rate, gaps, row, thefts=()):
        """What the main statement says that a row with these thefts pays at least; None where it says nothing."""
        if not self.bears(weights, rate) or not self._are_told(gaps, row) or not isinstance(thefts, (list, tuple)):
            return None
        if not all([_is_theft(self._office, row.days, theft) for theft in thefts]):
            return None
        walk = Walk(self._office.accounts, row.days, gaps, _moves(row, thefts))
        if walk.seen_by(self._office) is not None:
            return None
        made = Prices(weights, self._office)
        last = self._worth(made, rate, row.days, walk.gaps_behind(row.days - 1))
        taken = [self._worth(made, rate, day, Gaps.lone(account, number)) for day, account, number in thefts]
        return last - self._worth(made, rate, 0, gaps) - Amount.total(taken)

    def _are_told(self, gaps, row):
        """Whether any values are gaps of accounts of the office and a row of it."""
        if not isinstance(gaps, Gaps) or not isinstance(row, Row):
            return False
        return row.twin_office() == self._office and all([name in self._office.accounts for name in gaps.accounts])

    def _holds(self, weights, number, times):
        """Whether any values are weights and a number that they bear if each kind has its weight so many times."""
        office = self._office
        if not has_form(weights, office):
            return False
        made = Prices(weights, office)
        for day in range(office.days):
            for kind in office.kinds_on(day):
                shift = office[kind]
                if shift.sum_in(made.on_day[day]) > shift.weight * times * made.bottom:
                    return False
        first, last = made.on_day[0], made.on_day[-1]
        # An Amount equals nothing but a number.
        return all([Amount(last[account] - first[account], made.bottom) == number for account in office.accounts])

    def _worth(self, made, rate, day, gaps):
        """The sum of the gaps times the prices of a day of a row, by weights that bear the rate."""
        price = made.on_day[day % self._office.days]
        # The prices of all accounts grow by the rate in each round.
        grown = gaps.hole * rate * (day // self._office.days)
        return grown + sum_of_products([(gaps[account], top) for account, top in price.items()]).over(made.bottom)
