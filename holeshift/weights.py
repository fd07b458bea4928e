"""Weights of checks and looks, and the prices of accounts that they make."""

from holeshift.amounts import Amount, is_int, is_int_within, shared_bottom, whole_over
from holeshift.errors import BadDay


def is_key(value, key):
    """Whether any value is this key, kinds and all: a name, or a pair of a day and a name."""
    if not isinstance(key, tuple):
        return value == key
    return value == key and is_int(value[0])


def tells_all(value, keys):
    """Whether any value is a tuple of the pairs of these keys, in this order, with Amounts."""
    if not isinstance(value, tuple) or len(value) != len(keys):
        return False
    for pair, key in zip(value, keys):
        if not isinstance(pair, tuple) or len(pair) != 2:
            return False
        if not is_key(pair[0], key) or not isinstance(pair[1], Amount):
            return False
    return True


def has_form(weights, office):
    """Whether any value is Weights that have the form told for this office."""
    if not isinstance(weights, Weights):
        return False
    return tells_all(weights.ends, office.checks) and tells_all(weights.looks, office.looks)


class Prices:
    """The prices that weights of the form told make ahead of each day of the first round, and behind it.

    They are integers over one bottom, by days, in dicts from all accounts.
    """

    def __init__(self, weights, office):
        self.bottom = shared_bottom([number for _, number in weights.ends + weights.looks])
        price = {account: 0 for account in office.accounts}
        for name, number in weights.ends:
            price = self._more(price, office[name], whole_over(number, self.bottom))
        self.on_day = [price]
        for day in range(office.days):
            for look, number in weights.looks:
                if look[0] == day:
                    price = self._more(price, office[look[1]], -whole_over(number, self.bottom))
            self.on_day.append(price)

    def _more(self, price, check, number):
        """The prices of a dict with so many times the coefficients of a check more."""
        return {account: top + number * check[account] for account, top in price.items()}


class Weights:
    """A paper: a number for each check of an office, its end, and one for each look."""

    def __init__(self, ends, looks):
        self.ends = ends
        self.looks = looks

    def prices(self, office, day):
        """A dict from the accounts to their prices ahead of the looks of a day of the first round."""
        if not is_int_within(day, 0, office.days):
            raise BadDay(day)
        made = Prices(self, office)
        return {account: Amount(top, made.bottom) for account, top in made.on_day[day].items()}

    def worth(self, office, gaps):
        """The sum of the ends times what their checks see."""
        return Amount.total([end * office[name].sum_of(gaps) for name, end in self.ends])

    def __eq__(self, other):
        return isinstance(other, Weights) and self.ends == other.ends and self.looks == other.looks
