"""Offices: accounts, a round, kinds of shifts and checks."""

from holeshift.amounts import is_int, is_int_within
from holeshift.errors import (
    BadDay, BadItem, BadLook, BadOffice, Clash, InUse, NoAccount, NoItem, TooMany, Unlike,
)
from holeshift.items import Check, Item, Shift
from holeshift.names import need_name, new_names


def need_accounts(office, accounts):
    """Raise NoAccount(account) with the first of these accounts that the office lacks."""
    for account in accounts:
        if account not in office.accounts:
            raise NoAccount(account)


def _need_round(days):
    """Raise BadOffice for any value that is no number of days of a round."""
    if not is_int_within(days, 1, Office.DAYS):
        raise BadOffice("days")


def _need_day(day):
    """Raise BadDay for any value that is no day of a row."""
    if not is_int(day) or day < 0:
        raise BadDay(day)


def _ascending_accounts(accounts):
    """The accounts of an office, ascending; raises as Office."""
    for account in accounts:
        need_name(account)
    if len(accounts) == 0 or len(set(accounts)) != len(accounts):
        raise BadOffice("accounts")
    if len(accounts) > Office.ACCOUNTS:
        raise TooMany("accounts", Office.ACCOUNTS)
    return tuple(sorted([str(account) for account in accounts]))


class Arranged:
    """Items under ascending names, and which of them fall on each day of a round of so many days. It never changes."""

    def __init__(self, days, items):
        ascending = sorted([str(name) for name in items])
        kinds = [(name, items[name].days) for name in ascending if isinstance(items[name], Shift)]
        checks = [(name, items[name].days) for name in ascending if isinstance(items[name], Check)]
        self.by_name = {name: items[name] for name in ascending}
        self.all_kinds = tuple([name for name, _ in kinds])
        self.all_checks = tuple([name for name, _ in checks])
        self.kinds_by_day = [
            tuple([name for name, own in kinds if not own or day in own]) for day in range(days)
        ]
        self.looks_by_day = [tuple([name for name, own in checks if day in own]) for day in range(days)]


def _arrange(days, items):
    """These items arranged for an office with a round of so many days; raises TooMany if there are too many."""
    made = Arranged(days, items)
    shifts = sum([len(names) for names in made.kinds_by_day])
    looks = sum([len(names) for names in made.looks_by_day])
    for what, many, most in (
        ("kinds", len(made.all_kinds), Office.KINDS), ("checks", len(made.all_checks), Office.CHECKS),
        ("shifts", shifts, Office.SHIFTS), ("looks", looks, Office.LOOKS),
    ):
        if many > most:
            raise TooMany(what, most)
    return made


def _office_of(days, accounts, items):
    """An office with these items; raises TooMany."""
    made = Office(days, *accounts)
    made._held = _arrange(days, items)
    return made


class Office:
    """Accounts, a round of some days, and items under names. Offices change."""

    DAYS = 5
    ACCOUNTS = 5
    KINDS = 12
    LOOKS = 12
    CHECKS = 8
    SHIFTS = 48

    def __init__(self, days, *accounts):
        _need_round(days)
        self._days = days
        self._accounts = _ascending_accounts(accounts)
        self._held = Arranged(days, {})

    @property
    def days(self):
        """How many days the round has."""
        return self._days

    @days.setter
    def days(self, value):
        self.set_days(value)

    def set_days(self, days):
        """Give the round so many days; raises BadOffice, InUse, TooMany."""
        _need_round(days)
        for day in range(days, Office.DAYS):
            if any([day in item.days for item in self._held.by_name.values()]):
                raise InUse(day)
        self._held = _arrange(days, self._held.by_name)
        self._days = days

    @property
    def accounts(self):
        """The ascending tuple of the accounts."""
        return self._accounts

    @property
    def names(self):
        """The ascending tuple of the names of all items."""
        return tuple(self._held.by_name)

    @property
    def kinds(self):
        """The ascending tuple of the names of the kinds."""
        return self._held.all_kinds

    @property
    def checks(self):
        """The ascending tuple of the names of the checks."""
        return self._held.all_checks

    @property
    def hands(self):
        """The ascending tuple of the hands of the kinds."""
        return tuple(sorted(set([str(self._held.by_name[name].hand) for name in self.kinds])))

    @hands.setter
    def hands(self, value):
        # Papers have attributes of these names; those of an office are those of its items.
        raise AttributeError("the hands of an office are not assigned")

    @property
    def looks(self):
        """The tuple of the looks, pairs (day, name of a check), by days, then by names."""
        return tuple([(day, name) for day, names in enumerate(self._held.looks_by_day) for name in names])

    @looks.setter
    def looks(self, value):
        raise AttributeError("the looks of an office are not assigned")

    def __contains__(self, name):
        return isinstance(name, str) and name in self._held.by_name

    def __len__(self):
        return len(self._held.by_name)

    def __iter__(self):
        # Without this, Python would ask for the items of 0, 1 and so on.
        raise TypeError("an office is not iterated over; take its names")

    def __getitem__(self, name):
        if name not in self:
            raise NoItem(name)
        return self._held.by_name[name]

    def __setitem__(self, name, item):
        need_name(name)
        if not isinstance(item, Item):
            raise BadItem("item")
        need_accounts(self, item.accounts)
        for day in item.days:
            if day >= self._days:
                raise BadDay(day)
        self._held = _arrange(self._days, {**self._held.by_name, name: item})

    def drop(self, name):
        """Take the item of this name out; raises NoItem(name) for any value that is none."""
        if name not in self:
            raise NoItem(name)
        kept = {own: item for own, item in self._held.by_name.items() if own != name}
        self._held = _arrange(self._days, kept)

    def kinds_on(self, day):
        """The ascending tuple of the kinds that can be made on a day of a row; raises BadDay(day)."""
        _need_day(day)
        return self._held.kinds_by_day[day % self._days]

    def looks_on(self, day):
        """The ascending tuple of the checks that look on a day of a row; raises BadDay(day)."""
        _need_day(day)
        return self._held.looks_by_day[day % self._days]

    def twin(self):
        """An equal office that goes its own way."""
        accounts = self._accounts
        made = Office(self._days, *accounts)
        made._held = self._held
        return made

    def __eq__(self, other):
        if not isinstance(other, Office):
            return False
        if self._days != other._days or self._accounts != other._accounts:
            return False
        return self._held.by_name == other._held.by_name

    def __or__(self, other):
        if not isinstance(other, Office):
            return NotImplemented
        if self._days != other._days:
            raise Unlike("days")
        if self._accounts != other._accounts:
            raise Unlike("accounts")
        for name, item in self._held.by_name.items():
            if name in other and not item == other[name]:
                raise Clash(name)
        return _office_of(self._days, self._accounts, {**self._held.by_name, **other._held.by_name})

    def __ior__(self, other):
        return self | other

    def __lshift__(self, other):
        if not is_int(other):
            return NotImplemented
        items = {name: item.begun_at(other, self._days) for name, item in self._held.by_name.items()}
        return _office_of(self._days, self._accounts, items)

    def __mul__(self, other):
        if not is_int(other) or other < 1:
            raise BadOffice("times")
        if self._days * other > Office.DAYS:
            raise TooMany("days", Office.DAYS)
        items = {name: item.repeated(other, self._days) for name, item in self._held.by_name.items()}
        return _office_of(self._days * other, self._accounts, items)

    def renamed(self, names):
        """The office with other accounts, by a dict from names to names; raises BadName(value), then Clash(name)."""
        found = new_names(self._accounts, names)
        items = {name: item.renamed(found) for name, item in self._held.by_name.items()}
        return _office_of(self._days, list(found.values()), items)

    def with_hands(self, *hands):
        """The office with the kinds of these hands alone, any values, and all checks."""
        return self._with_kinds([name for name in self.kinds if self._held.by_name[name].hand in hands])

    def without_hands(self, *hands):
        """The office without the kinds of these hands, any values."""
        return self._with_kinds([name for name in self.kinds if self._held.by_name[name].hand not in hands])

    def _with_kinds(self, kinds):
        """The office with these of its kinds alone, and all checks."""
        items = {name: item for name, item in self._held.by_name.items() if name in kinds or isinstance(item, Check)}
        return _office_of(self._days, self._accounts, items)

    def can_look(self, value):
        """Whether any value is a tuple of a day of the round and a name of a check."""
        if not isinstance(value, tuple) or len(value) != 2:
            return False
        day, name = value
        return is_int_within(day, 0, self._days - 1) and name in self and isinstance(self._held.by_name[name], Check)

    def with_looks(self, *looks):
        """The office with these further looks; raises BadLook(at) with the first that is none, then TooMany."""
        for at, look in enumerate(looks):
            if not self.can_look(look):
                raise BadLook(at)
        items = dict(self._held.by_name)
        for day, name in looks:
            check = items[name]
            items[name] = check.with_days([*check.days, day])
        return _office_of(self._days, self._accounts, items)
