"""Rows: amounts of shifts for each of some days."""

from holeshift.amounts import Amount, is_int, is_int_within, shared_bottom, sum_of_products, whole_over
from holeshift.errors import BadAmount, BadDay, BadRow, NoKind, TooMany
from holeshift.gaps import gaps_of
from holeshift.offices import need_accounts


def is_amount_from_0(value):
    """Whether any value is a number from 0 on."""
    return Amount.is_number(value) and bool(value >= 0)


def _days_told(office, days):
    """The days of a row of the office; raises BadRow for any value that tells none."""
    if days is None:
        return office.days
    if not is_int_within(days, 1, Row.MOST_DAYS):
        raise BadRow("days")
    return days


def _need_few_days(days):
    """Raise TooMany for more days than a row can have."""
    if days > Row.MOST_DAYS:
        raise TooMany("days", Row.MOST_DAYS)


def _need_place(office, days, day, kind):
    """Raise BadDay(day) or NoKind(kind) for any values that are no day and no kind of a row."""
    if not is_int_within(day, 0, days - 1):
        raise BadDay(day)
    if kind not in office.kinds:
        raise NoKind(kind)


def _need_setting(office, days, day, kind, number):
    """Raise what setting an amount of a row raises."""
    _need_place(office, days, day, kind)
    if kind not in office.kinds_on(day):
        raise BadDay(day)
    if not is_amount_from_0(number):
        raise BadAmount(number)


def _amounts_told(office, days, shifts):
    """The dict from (day, kind) to the amounts above 0 of these shifts, each set behind the other."""
    for day, kind, number in shifts:
        _need_setting(office, days, day, kind, number)
    found = {(day, kind): Amount.of(number) for day, kind, number in shifts}
    return {at: amount for at, amount in found.items() if amount != 0}


class Walk:
    """The gaps of some accounts behind each of so many days, as integers over one bottom.

    The moves are tuples (day, account, amount, integer), ascending by their days: the amount times the integer is
    added to the gap of the account on this day.
    """

    def __init__(self, accounts, days, gaps, moves):
        first = {account: gaps[account] for account in accounts}
        amounts = [*list(first.values()), *[amount for _, _, amount, _ in moves]]
        self.bottom = shared_bottom(amounts)
        tops = {account: whole_over(gap, self.bottom) for account, gap in first.items()}
        self.behind_day = []
        at = 0
        for day in range(days):
            while at < len(moves) and moves[at][0] == day:
                _, account, amount, times = moves[at]
                tops[account] = tops[account] + whole_over(amount, self.bottom) * times
                at = at + 1
            self.behind_day.append({account: top for account, top in tops.items()})

    def gaps_behind(self, day):
        """The Gaps behind a day."""
        return gaps_of({account: Amount(top, self.bottom) for account, top in self.behind_day[day].items()})

    def seen_by(self, office):
        """None if all looks of an office see 0, otherwise the first (day, check, amount) that is seen."""
        for day, tops in enumerate(self.behind_day):
            for name in office.looks_on(day):
                top = office[name].sum_in(tops)
                if top != 0:
                    return (day, name, Amount(top, self.bottom))
        return None


class Row:
    """Amounts of the kinds of an office, for each of some days. Rows change."""

    MOST_DAYS = 40

    def __init__(self, office, days=None, shifts=()):
        self._office = office.twin()
        self._days = _days_told(office, days)
        self._amounts = _amounts_told(self._office, self._days, shifts)

    def twin_office(self):
        """A twin of the office."""
        return self._office.twin()

    @property
    def days(self):
        """How many days the row has."""
        return self._days

    def __getitem__(self, at):
        day, kind = at
        _need_place(self._office, self._days, day, kind)
        return self._amounts.get((day, kind), Amount(0))

    def __setitem__(self, at, number):
        day, kind = at
        _need_setting(self._office, self._days, day, kind, number)
        if number == 0:
            self.drop(day, kind)
        else:
            self._amounts[(day, kind)] = Amount.of(number)

    def drop(self, day, kind):
        """Make an amount 0; raises as reading it."""
        _need_place(self._office, self._days, day, kind)
        self._amounts = {at: amount for at, amount in self._amounts.items() if at != (day, kind)}

    def __contains__(self, value):
        if not isinstance(value, tuple) or len(value) != 2:
            return False
        day, kind = value
        return is_int(day) and isinstance(kind, str) and (day, kind) in self._amounts

    def __len__(self):
        return len(self._amounts)

    def __iter__(self):
        raise TypeError("a row is not iterated over; take its shifts")

    def _listed(self):
        """The list of the tuples (day, kind, amount) above 0, by the days, on one day by the names."""
        places = [(day, kind) for day in range(self._days) for kind in self._office.kinds_on(day)]
        return [(day, kind, self._amounts[(day, kind)]) for day, kind in places if (day, kind) in self._amounts]

    def shifts(self):
        """Yield the tuples (day, kind, amount) above 0, by the days, on one day by the names."""
        found = self._listed()
        for shift in found:
            yield shift

    def _weight_of(self, told):
        """The sum of the amounts of these shifts times the weights of their kinds."""
        return sum_of_products([(amount, self._office[kind].weight) for _, kind, amount in told])

    @property
    def weight(self):
        """The sum of the amounts times the weights of their kinds."""
        return self._weight_of(self._listed())

    @weight.setter
    def weight(self, value):
        # Papers have an attribute of this name; that of a row is what its amounts cost.
        raise AttributeError("the weight of a row is not assigned")

    def weight_on(self, day):
        """The weight of one day; raises BadDay(day) for any value that is no day of the row."""
        if not is_int_within(day, 0, self._days - 1):
            raise BadDay(day)
        return self._weight_of([shift for shift in self._listed() if shift[0] == day])

    def moves(self):
        """The list of the tuples (day, account, amount, integer): the amount times the integer is added to its gap."""
        told = [(day, self._office[kind].changes, amount) for day, kind, amount in self._listed()]
        return [(day, account, amount, part) for day, changes, amount in told for account, part in changes.items()]

    @property
    def change(self):
        """The Gaps that all shifts of the row add."""
        moved = [(account, amount, part) for _, account, amount, part in self.moves()]
        return gaps_of({
            account: sum_of_products([(amount, part) for name, amount, part in moved if name == account])
            for account in self._office.accounts
        })

    def _walk(self, gaps):
        """The walk from these gaps through the days of the row; raises NoAccount(name)."""
        need_accounts(self._office, gaps.accounts)
        return Walk(self._office.accounts, self._days, gaps, self.moves())

    def after(self, gaps):
        """Yield the gaps behind the shifts of each day, if these are those ahead of day 0; raises NoAccount(name)."""
        walk = self._walk(gaps)
        found = [walk.gaps_behind(day) for day in range(self._days)]
        for behind in found:
            yield behind

    def last(self, gaps):
        """The gaps behind the last day; raises NoAccount(name)."""
        need_accounts(self._office, gaps.accounts)
        return gaps + self.change

    def seen(self, gaps):
        """None if the row passes from these gaps, otherwise the first (day, check, amount) that is seen."""
        return self._walk(gaps).seen_by(self._office)

    def passes(self, gaps):
        """Whether the row passes from these gaps; raises NoAccount(name)."""
        return self.seen(gaps) is None

    def _need_like(self, other):
        """Raise BadRow unless the other row is one of an equal office."""
        if not self._office == other._office:
            raise BadRow("office")

    def _need_rounds(self):
        """Raise BadRow unless the days are whole rounds."""
        if self._days % self._office.days != 0:
            raise BadRow("days")

    def _of(self, days, told):
        """A row of the same office, of so many days, with these shifts."""
        made = Row(self._office, days)
        made._amounts = {(day, kind): amount for day, kind, amount in told if amount != 0}
        return made

    def __add__(self, other):
        if not isinstance(other, Row):
            return NotImplemented
        self._need_like(other)
        self._need_rounds()
        days = self._days + other._days
        _need_few_days(days)
        return self._of(days, [*self._listed(), *[(self._days + day, kind, n) for day, kind, n in other._listed()]])

    def __iadd__(self, other):
        return self + other

    def __mul__(self, other):
        if not is_int(other):
            return NotImplemented
        self._need_rounds()
        days = self._days * other
        _need_few_days(days)
        told = self._listed()
        return self._of(days, [(at * self._days + day, kind, n) for at in range(other) for day, kind, n in told])

    def __rmul__(self, other):
        # Asked of an Amount, which would ask back for ever, this is no product.
        if not is_int(other):
            return NotImplemented
        return self * other

    def __imul__(self, other):
        return self * other

    def scaled(self, number):
        """A row with each amount times a number; raises BadAmount(number) for any value that is none from 0 on."""
        if not is_amount_from_0(number):
            raise BadAmount(number)
        return self._of(self._days, [(day, kind, amount * number) for day, kind, amount in self._listed()])

    def joined(self, other):
        """A row with the sums of the amounts; raises BadRow unless offices and days are equal."""
        self._need_like(other)
        if self._days != other._days:
            raise BadRow("days")
        added = [(day, kind, amount + self[day, kind]) for day, kind, amount in other._listed()]
        return self._of(self._days, [*self._listed(), *added])

    def only(self, kinds):
        """A row with the amounts of these kinds alone; raises NoKind(value) with the first value that is none."""
        for kind in kinds:
            if kind not in self._office.kinds:
                raise NoKind(kind)
        return self._of(self._days, [shift for shift in self._listed() if shift[1] in kinds])

    def rounds(self):
        """Yield the whole rounds of the row, each as a row of one round."""
        long = self._office.days
        told = self._listed()
        found = []
        for start in range(0, self._days - long + 1, long):
            inside = [(day - start, kind, amount) for day, kind, amount in told if start <= day < start + long]
            found.append(self._of(long, inside))
        for row in found:
            yield row

    def twin(self):
        """A row of its own, equal to this one."""
        return self._of(self._days, self._listed())

    def __eq__(self, other):
        if not isinstance(other, Row):
            return False
        return self._office == other._office and self._days == other._days and self._amounts == other._amounts

    @property
    def lines(self):
        """The tuple of the texts `DAY KIND AMOUNT` of the shifts."""
        return tuple([f"{day} {kind} {amount}" for day, kind, amount in self._listed()])
