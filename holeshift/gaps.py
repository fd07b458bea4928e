"""The gaps of accounts: what the book says of each less what is there."""

from holeshift.amounts import Amount, sum_of_products
from holeshift.errors import BadGaps, BadName, BadText
from holeshift.names import is_name, need_name


def _ascending_names(values):
    """The ascending keys of a dict; raises BadName(key) with the first that is no name."""
    for key in values:
        if not isinstance(key, str):
            raise BadName(key)
    names = sorted([str(key) for key in values])
    for name in names:
        need_name(name)
    return names


def _read_gap(word, at):
    """The gap that is the word at this index of a text; 0 is never told there."""
    try:
        gap = Amount.read(word)
    except BadText:
        raise BadText(0, at) from None
    if gap == 0:
        raise BadText(0, at)
    return gap


def gaps_of(amounts):
    """The Gaps of a dict from accounts, ascending ones, to Amounts."""
    made = Gaps()
    made._told = {account: gap for account, gap in amounts.items() if gap.top != 0}
    return made


class Gaps:
    """A gap for each account, 0 where none is told. Gaps never change."""

    def __init__(self, values=None):
        if values is None:
            self._told = {}
        elif not isinstance(values, dict):
            raise BadGaps(values)
        else:
            told = {account: Amount.of(values[account]) for account in _ascending_names(values)}
            self._told = {account: gap for account, gap in told.items() if gap.top != 0}

    @staticmethod
    def lone(account, number=1):
        """One account's gap, all others 0; raises BadName(account), then BadAmount(number)."""
        need_name(account)
        return Gaps({account: number})

    @classmethod
    def read(cls, text):
        """The gaps with just this text; raises BadText(0, word) for any other value."""
        if not isinstance(text, str):
            raise BadText(0, 0)
        if text == "none":
            return cls()
        words = text.split(" ")
        told = {}
        account = ""
        for at, word in enumerate(words):
            if at % 2 == 1:
                told[account] = _read_gap(word, at)
            elif is_name(word) and word > account:
                account = word
            else:
                raise BadText(0, at)
        if len(words) % 2 == 1:
            raise BadText(0, len(words))
        return cls(told)

    def __str__(self):
        if not self._told:
            return "none"
        return " ".join([f"{account} {gap}" for account, gap in self._told.items()])

    @property
    def accounts(self):
        """The ascending tuple of the accounts whose gap is not 0."""
        return tuple(self._told)

    @property
    def hole(self):
        """The sum of all gaps."""
        return Amount.total(list(self._told.values()))

    def __getitem__(self, account):
        if account in self:
            return self._told[account]
        need_name(account)
        return Amount(0)

    def __iter__(self):
        # Without this, Python would ask for the gaps of 0, 1 and so on.
        raise TypeError("gaps are not iterated over; take their accounts")

    def __contains__(self, value):
        return isinstance(value, str) and value in self._told

    def __len__(self):
        return len(self._told)

    def __eq__(self, other):
        return isinstance(other, Gaps) and self._told == other._told

    def __add__(self, other):
        if not isinstance(other, Gaps):
            return NotImplemented
        accounts = sorted(set([str(account) for account in self.accounts + other.accounts]))
        return gaps_of({account: self[account] + other[account] for account in accounts})

    def __iadd__(self, other):
        return self + other

    def __sub__(self, other):
        return self + -other

    def __isub__(self, other):
        return self - other

    def __mul__(self, other):
        if not Amount.is_number(other):
            return NotImplemented
        return gaps_of({account: gap * other for account, gap in self._told.items()})

    def __rmul__(self, other):
        return self * other

    def __imul__(self, other):
        return self * other

    def __neg__(self):
        return self * -1

    def over(self, number):
        """Each gap divided by a number; raises NoDivisor() for 0."""
        return self * Amount(1).over(number)

    def behind(self, shift, number):
        """The gaps behind a Shift by this amount, a number."""
        amount = Amount.of(number)
        accounts = sorted(set([str(account) for account in self.accounts + shift.accounts]))
        return gaps_of({
            account: sum_of_products([(self[account], 1), (amount, shift[account])]) for account in accounts
        })
