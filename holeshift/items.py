"""What an office has under names: kinds of shifts, and checks."""

from holeshift.amounts import is_int, is_int_within
from holeshift.errors import BadItem, BadText
from holeshift.linear import Dated, Linear, ascending_days, wrong_part
from holeshift.names import is_name, new_names
from holeshift.words import as_name, need_end, read_word

MOST_ACCOUNTS = 5
MOST_WEIGHT = 100


def _is_changes(value):
    """Whether any value is the changes of a Shift."""
    if wrong_part(value) is not None:
        return False
    return 2 <= len(value) <= MOST_ACCOUNTS and sum(list(value.values())) == 0


def _is_accounts(value):
    """Whether any value is a list or tuple of one to five accounts, each once."""
    if not isinstance(value, (list, tuple)) or not 1 <= len(value) <= MOST_ACCOUNTS:
        return False
    return all([is_name(account) for account in value]) and len(set(value)) == len(value)


def _remade(item, parts, days):
    """An item of the same class, weight and hand with other parts and days."""
    accounts = list(parts)
    if isinstance(item, Shift):
        weight, hand = item.weight, item.hand
        return Shift(parts, *days, weight=weight, hand=hand)
    if isinstance(item, Count):
        account = accounts[0]
        return Count(account, *days)
    if isinstance(item, Total):
        return Total(accounts, *days)
    left = [account for account in accounts if parts[account] > 0]
    right = [account for account in accounts if parts[account] < 0]
    return Match(left, right, *days)


def _words(item):
    """The words behind the first one in the text of an item."""
    accounts = item.accounts
    days = ",".join([str(day) for day in item.days]) if item.days else "-"
    if isinstance(item, Shift):
        changes = ",".join([f"{account}:{item[account]}" for account in accounts])
        return [changes, days, str(item.weight), item.hand]
    left = ",".join([account for account in accounts if item[account] > 0])
    if isinstance(item, Match):
        return [left, ",".join([account for account in accounts if item[account] < 0]), days]
    return [left, days]


class Item(Linear, Dated):
    """The base class of what an office has under names. Items never change."""

    def __init__(self, parts, days):
        super().__init__(parts)
        self._days = ascending_days(days)

    def with_days(self, days):
        """The item with these days, a list or tuple, in the place of its own."""
        return _remade(self, self._parts, days)

    def renamed(self, names):
        """The item with other accounts, by a dict from names to names."""
        found = new_names(self.accounts, names)
        return _remade(self, {found[account]: part for account, part in self._parts.items()}, self._days)

    def begun_at(self, day, days):
        """The item in a round of so many days that begins on what was this day."""
        return self.with_days([(own - day) % days for own in self._days])

    def repeated(self, k, days):
        """The item in a round that is k rounds of so many days; raises BadDay(day) with the least day above 4."""
        # A later round has no day that is the least one above 4, and this one is told first of the ascending days.
        rounds = min(int(k), Dated.LAST + 2)
        return self.with_days(sorted([int(own + days * at) for at in range(rounds) for own in self._days]))

    def _further(self):
        """What the item has beside its parts and days."""
        return ()

    def __eq__(self, other):
        if not isinstance(other, Item) or self.WORD != other.WORD or self._parts != other._parts:
            return False
        return self._days == other._days and self._further() == other._further()

    def __str__(self):
        return " ".join([self.WORD, *_words(self)])

    @classmethod
    def read(cls, text):
        """The item with just this text; raises BadText(0, word) for any other value."""
        if not isinstance(text, str):
            raise BadText(0, 0)
        return _read_item(text.split(" "))


class Shift(Item):
    """A kind of shifts."""

    WORD = "shift"

    def __init__(self, changes, *days, weight=1, hand="any"):
        if not _is_changes(changes):
            raise BadItem("changes")
        super().__init__(changes, days)
        if not is_int_within(weight, 1, MOST_WEIGHT):
            raise BadItem("weight")
        if not is_name(hand):
            raise BadItem("hand")
        self._weight = weight
        self._hand = hand

    @property
    def changes(self):
        """A new dict from accounts to what one unit changes there."""
        return dict(self._parts)

    @property
    def weight(self):
        """What one unit costs."""
        return self._weight

    @weight.setter
    def weight(self, value):
        # Papers have an attribute of this name; items never change.
        raise AttributeError("the weight of a shift is not assigned")

    @property
    def hand(self):
        """Who makes it."""
        return self._hand

    def _further(self):
        """What the item has beside its parts and days."""
        return (self._weight, self._hand)

    def __mul__(self, other):
        if not is_int(other):
            return NotImplemented
        days, weight, hand = self._days, self._weight * other, self._hand
        changes = {account: part * other for account, part in self._parts.items()}
        return Shift(changes, *days, weight=weight, hand=hand)


class Check(Item):
    """The base class of the checks, which see a sum of gaps on at least one day."""

    def __init__(self, parts, days):
        super().__init__(parts, days)
        if not days:
            raise BadItem("days")

    def __call__(self, gaps):
        return self.sum_of(gaps)

    def moved_by(self, shift):
        """What one unit of a Shift changes of what the check sees, an integer."""
        return sum([self._parts.get(account, 0) * part for account, part in shift._parts.items()])


class Count(Check):
    """A check that looks at the gap of one account."""

    WORD = "count"

    def __init__(self, account, *days):
        if not is_name(account):
            raise BadItem("account")
        super().__init__({account: 1}, days)

    def __call__(self, gaps):
        return self.sum_of(gaps)


class Total(Check):
    """A check that looks at the sum of the gaps of some accounts."""

    WORD = "total"

    def __init__(self, accounts, *days):
        if not _is_accounts(accounts):
            raise BadItem("accounts")
        super().__init__({account: 1 for account in accounts}, days)

    def __call__(self, gaps):
        return self.sum_of(gaps)


class Match(Check):
    """A check that looks at the sum of the gaps of the left accounts less that of the right ones."""

    WORD = "match"

    def __init__(self, left, right, *days):
        if not _is_accounts(left):
            raise BadItem("left")
        if not _is_accounts(right) or any([account in left for account in right]):
            raise BadItem("right")
        super().__init__({account: 1 if account in left else -1 for account in [*left, *right]}, days)

    def __call__(self, gaps):
        return self.sum_of(gaps)


def _read_accounts(word):
    """The accounts that a word tells, ascending, or None."""
    accounts = word.split(",")
    if not _is_accounts(accounts) or accounts != sorted([str(account) for account in accounts]):
        return None
    return accounts


def _read_changes(word):
    """The changes that a word tells, by ascending accounts, or None."""
    numbers = {str(part): part for part in range(-Linear.MOST, Linear.MOST + 1)}
    pairs = [part.partition(":") for part in word.split(",")]
    if not all([pair[2] in numbers for pair in pairs]):
        return None
    accounts = [pair[0] for pair in pairs]
    changes = {pair[0]: numbers[pair[2]] for pair in pairs}
    # An account that is told twice is not ascending.
    if accounts != sorted(set([str(account) for account in accounts])) or not _is_changes(changes):
        return None
    return changes


def _read_some_days(word):
    """The days that a word tells, at least one, ascending, or None."""
    numbers = {str(day): day for day in range(Dated.LAST + 1)}
    words = word.split(",")
    if not all([day in numbers for day in words]) or words != sorted(set([str(day) for day in words])):
        return None
    return [numbers[day] for day in words]


def _read_days(word):
    """The days that a word tells, perhaps none, ascending, or None."""
    return [] if word == "-" else _read_some_days(word)


def _read_weight(word):
    """The weight that a word tells, or None."""
    numbers = {str(weight): weight for weight in range(1, MOST_WEIGHT + 1)}
    return numbers.get(word)


def _read_shift(words):
    """The Shift with these words."""
    changes = read_word(words, 1, _read_changes)
    days = read_word(words, 2, _read_days)
    weight = read_word(words, 3, _read_weight)
    hand = read_word(words, 4, as_name)
    need_end(words, 5)
    return Shift(changes, *days, weight=weight, hand=hand)


def _read_match(words):
    """The Match with these words."""
    left = read_word(words, 1, _read_accounts)
    right = read_word(words, 2, _read_accounts)
    if any([account in left for account in right]):
        raise BadText(0, 2)
    days = read_word(words, 3, _read_some_days)
    need_end(words, 4)
    return Match(left, right, *days)


def _read_count(words):
    """The Count with these words."""
    account = read_word(words, 1, as_name)
    days = read_word(words, 2, _read_some_days)
    need_end(words, 3)
    return Count(account, *days)


def _read_total(words):
    """The Total with these words."""
    accounts = read_word(words, 1, _read_accounts)
    days = read_word(words, 2, _read_some_days)
    need_end(words, 3)
    return Total(accounts, *days)


READINGS = {"shift": _read_shift, "count": _read_count, "total": _read_total, "match": _read_match}


def _read_item(words):
    """The item with these words; raises BadText(0, word) with the index of the first one that cannot stand."""
    if words[0] not in READINGS:
        raise BadText(0, 0)
    reading = READINGS[words[0]]
    return reading(words)
