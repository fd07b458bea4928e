"""The points [3] to [9] of the document, added up anew without the package's own sums; and offices to try them on."""

import random
from fractions import Fraction

from holeshift.amounts import Amount
from holeshift.gaps import Gaps
from holeshift.items import Count, Match, Shift, Total
from holeshift.offices import Office


def fraction(number):
    return Fraction(number) if isinstance(number, int) else Fraction(number.top, number.bottom)


def amount(number):
    number = Fraction(number)
    return Amount(number.numerator, number.denominator)


def make(days, accounts, items):
    office = Office(days, *accounts)
    for name, item in items.items():
        office[name] = item
    return office


def told(office, gaps):
    """The gaps as a dict from all accounts of the office to fractions."""
    return {account: fraction(gaps[account]) for account in office.accounts}


def seen_by(check, gaps):
    """What a check sees of gaps in a dict, by [5]."""
    return sum(check[account] * gap for account, gap in gaps.items())


def days_behind(office, gaps, row, thefts=()):
    """The gaps behind the shifts of each day, by [4]."""
    now, found = told(office, gaps), []
    for day in range(row.days):
        for kind in office.kinds:
            for account, change in office[kind].changes.items():
                now[account] += change * fraction(row[day, kind])
        for on, account, number in thefts:
            if on == day:
                now[account] += fraction(number)
        found.append(dict(now))
    return found


def passes(office, gaps, row, thefts=()):
    """Whether a row passes, by [6]."""
    for day, now in enumerate(days_behind(office, gaps, row, thefts)):
        for name in office.checks:
            if day % office.days in office[name].days and seen_by(office[name], now) != 0:
                return False
    return True


def paid(office, row):
    """What a row pays, by [6]."""
    return sum(fraction(row[d, kind]) * office[kind].weight for d in range(row.days) for kind in office.kinds)


def is_plan(office, gaps, row):
    """Whether gaps and a row of the office are a plan, by [7]."""
    first, last = told(office, gaps), days_behind(office, gaps, row)[-1]
    same = all(seen_by(office[name], first) == seen_by(office[name], last) for name in office.checks)
    return sum(first.values()) == 1 and row.days == office.days and same and passes(office, gaps, row)


def prices(office, weights, day):
    """The prices of the accounts ahead of the looks of a day of the first round, by [8]."""
    found = {account: Fraction(0) for account in office.accounts}
    for account in found:
        for name, end in weights.ends:
            found[account] += fraction(end) * office[name][account]
        for (on, name), number in weights.looks:
            if on < day:
                found[account] -= fraction(number) * office[name][account]
    return found


def holds(office, weights, number, times):
    """The conditions 1 and 2 of [8] for a number, with each weight of a kind so many times."""
    for day in range(office.days):
        at = prices(office, weights, day)
        for name in office.kinds:
            shift = office[name]
            if not shift.days or day in shift.days:
                if sum(change * at[account] for account, change in shift.changes.items()) > shift.weight * times:
                    return False
    for account in office.accounts:
        total = sum((fraction(y) * office[name][account] for (_, name), y in weights.looks), Fraction(0))
        if total != -fraction(number):
            return False
    return True


def least(office, weights, rate, gaps, row, thefts=()):
    """The sum of [9] for a row with thefts."""
    def worth(day, values):
        at = prices(office, weights, day % office.days)
        return sum((at[name] + (day // office.days) * fraction(rate)) * gap for name, gap in values.items())

    last = days_behind(office, gaps, row, thefts)[-1]
    found = worth(row.days, last) - worth(0, told(office, gaps))
    return found - sum(worth(day, {account: fraction(number)}) for day, account, number in thefts)


def has_blind_place(office):
    """Whether some gaps with the hole 1 are seen by no check, by [11]: 1 for all accounts is no sum of multiples."""
    rows = [[Fraction(office[name][account]) for account in office.accounts] for name in office.checks]
    ones = [Fraction(1) for _ in office.accounts]
    while rows:
        row = rows.pop()
        at = next((at for at, number in enumerate(row) if number), None)
        if at is not None:
            rows = [[n - other[at] / row[at] * m for n, m in zip(other, row)] for other in rows]
            ones = [n - ones[at] / row[at] * m for n, m in zip(ones, row)]
    return any(ones)


def ring():
    return make(2, "ab", {
        "up": Shift({"a": -1, "b": 1}, hand="bob"), "down": Shift({"a": 1, "b": -1}, hand="eve"),
        "seea": Count("a", 0), "seeb": Count("b", 1),
    })


def one_way():
    """A limited office: what is missing can pass one round, but not come back."""
    office = ring()
    office.drop("up")
    return office


def one_way_back():
    """A blocked office: what is missing in b on day 0 cannot leave it on day 1."""
    office = ring()
    office.drop("down")
    return office


def sided():
    """An office in which only one's hand moves both sides, at unlike weights."""
    return make(3, "abc", {
        "ab": Shift({"a": -1, "b": 1}, weight=3), "bc": Shift({"b": -2, "c": 2}, 0, 2, weight=7),
        "ca": Shift({"c": -1, "a": 1}, 1, 2, weight=100), "ba": Shift({"b": -1, "a": 1}, 2),
        "seea": Count("a", 0), "seeb": Total(["b"], 1), "seec": Match(["c"], ["b"], 2, 1),
    })


def full():
    """An office with as many kinds, checks, shifts and looks as there may be, of five accounts and five days."""
    office = Office(5, *"abcde")
    pairs = ["ab", "bc", "cd", "de", "ea", "ba", "cb", "dc", "ed", "ae", "ac", "ce"]
    for at, (one, other) in enumerate(pairs):
        days = [day for day in range(5) if day != at % 5]
        changes, weight = {one: -(at % 3 + 1), other: at % 3 + 1}, at * at % 100 + 1
        office[one + other] = Shift(changes, *days, weight=weight, hand="h" + one)
    for at, account in enumerate("abcde"):
        office["see" + account] = Count(account, at)
    office["some"], office["other"] = Total(["a", "b"], 2, 3, 4), Match(["c", "d"], ["a"], 0, 1)
    office["more"] = Total(["d", "e"], 0, 1)
    return office


def offices():
    """Offices of all sorts."""
    blind = ring()
    blind.drop("seeb")
    both = ring().with_looks((1, "seea"), (0, "seeb"))
    dear = make(2, "ab", {
        "up": Shift({"a": -1, "b": 1}, weight=100), "down": Shift({"a": 9, "b": -9}, weight=100), "x": Count("a", 0),
        "y": Count("b", 1),
    })
    no_kinds = make(2, "ab", {"x": Count("a", 0), "y": Count("b", 1)})
    return [
        Office(1, "a"), Office(5, *"abcde"), make(1, "a", {"x": Count("a", 0)}), make(5, "a", {"x": Count("a", 3)}),
        make(1, "ab", {"x": Total(["a", "b"], 0)}), make(1, "ab", {"x": Match(["a"], ["b"], 0)}),
        make(3, "ab", {"up": Shift({"a": -1, "b": 1})}), no_kinds, ring(), one_way(), one_way_back(), blind, both, dear,
        sided(), full(), ring() << 1, ring() * 2, sided().without_hands("any"), full().without_hands("ha"),
    ]


def some_changes(chance, accounts):
    while True:
        chosen = chance.sample(accounts, chance.randint(2, len(accounts)))
        numbers = [chance.randint(-2, 2) for _ in chosen]
        if sum(numbers) == 0 and all(numbers):
            return dict(zip(chosen, numbers))


def some_check(chance, accounts, days):
    days = chance.sample(range(days), chance.randint(1, min(days, 2)))
    chosen = chance.sample(accounts, chance.randint(1, len(accounts)))
    cut = chance.randint(1, len(chosen))
    if cut == len(chosen):
        return Total(chosen, *days) if cut > 1 else Count(chosen[0], *days)
    return Match(chosen[:cut], chosen[cut:], *days)


def some_office(chance):
    """An office by chance: with few looks and many kinds, so that not nearly all are blocked."""
    accounts, days = "abcde"[:chance.randint(2, 5)], chance.randint(1, 5)
    office = Office(days, *accounts)
    for letter in "abcdefghi"[:chance.randint(0, 9)]:
        on = chance.sample(range(days), chance.randint(1, days)) if chance.random() < 0.3 else []
        weight = chance.choice([1, 2, 3, 100])
        office["k" + letter] = Shift(some_changes(chance, accounts), *on, weight=weight, hand=chance.choice("xyz"))
    for letter in "abcd"[:chance.randint(1, 4)]:
        office["c" + letter] = some_check(chance, accounts, days)
    return office


def some_offices(seed, count):
    chance = random.Random(seed)
    return [some_office(chance) for _ in range(count)]


def gaps_of(values):
    return Gaps({account: amount(number) for account, number in values.items()})
