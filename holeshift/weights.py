"""Weights of checks and looks, and the prices of accounts that they make."""

from holeshift.amounts import Amount, is_int, is_int_within
from holeshift.errors import BadDay


def _is_key(value, key):
    """Whether any value is this key, kinds and all: a name, or a pair of a day and a name."""
    if not isinstance(key, tuple):
        return value == key
    return value == key and is_int(value[0])


def tells_all(value, keys):
    """Whether any value is a tuple of the pairs of these keys, in this order, with Amounts."""
    if not isinstance(value, tuple) or len(value) != len(keys):
        return False
    for pair, key in zip(value, keys):
        if not isinstance(pair, tuple) or len(pair) != 2:
            return False
        if not _is_key(pair[0], key) or not isinstance(pair[1], Amount):
            return False
    return True


def has_form(weights, office):
    """Whether any value is Weights that have the form told for this office."""
    if not isinstance(weights, Weights):
        return False
    return tells_all(weights.ends, office.checks) and tells_all(weights.looks, office.looks)


class Weights:
    """A paper: a number for each check of an office, its end, and one for each look."""

    def __init__(self, ends, looks):
        self.ends = ends
        self.looks = looks

    def prices(self, office, day):
        """A dict from the accounts to their prices ahead of the looks of a day of the first round."""
        if not is_int_within(day, 0, office.days):
            raise BadDay(day)
        terms = [(office[name], end) for name, end in self.ends]
        for look, worth in self.looks:
            if look[0] < day:
                terms.append((office[look[1]], -worth))
        return {
            account: Amount.total([worth * check[account] for check, worth in terms]) for account in office.accounts
        }

    def worth(self, office, gaps):
        """The sum of the ends times what their checks see."""
        return Amount.total([end * office[name].sum_of(gaps) for name, end in self.ends])

    def __eq__(self, other):
        return isinstance(other, Weights) and self.ends == other.ends and self.looks == other.looks
