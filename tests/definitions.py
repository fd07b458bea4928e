"""The points [3] to [9] of the document, added up anew without the package's own sums; and offices to try them on."""

import random
from fractions import Fraction

from holeshift.amounts import Amount
from holeshift.gaps import Gaps
from holeshift.items import Count, Match, Shift, Total
from holeshift.offices import Office
from holeshift.prices import Blocked, Lasting, Limited
from holeshift.rows import Row
from holeshift.weights import Weights
from tests.helper import same


def fraction(number):
    return Fraction(number) if isinstance(number, int) else Fraction(number.top, number.bottom)


def amount(number):
    number = Fraction(number)
    return Amount(number.numerator, number.denominator)


def make(days, accounts, items):
    office = Office(days, *accounts)
    for name, item in items.items():
        office[name] = item
    return office


def told(office, gaps):
    """The gaps as a dict from all accounts of the office to fractions."""
    return {account: fraction(gaps[account]) for account in office.accounts}


def seen_by(check, gaps):
    """What a check sees of gaps in a dict, by [5]."""
    return sum(check[account] * gap for account, gap in gaps.items())


def days_behind(office, gaps, row, thefts=()):
    """The gaps behind the shifts of each day, by [4]."""
    now, found = told(office, gaps), []
    for day in range(row.days):
        for kind in office.kinds:
            for account, change in office[kind].changes.items():
                now[account] += change * fraction(row[day, kind])
        for on, account, number in thefts:
            if on == day:
                now[account] += fraction(number)
        found.append(dict(now))
    return found


def passes(office, gaps, row, thefts=()):
    """Whether a row passes, by [6]."""
    for day, now in enumerate(days_behind(office, gaps, row, thefts)):
        for name in office.checks:
            if day % office.days in office[name].days and seen_by(office[name], now) != 0:
                return False
    return True


def paid(office, row):
    """What a row pays, by [6]."""
    return sum(fraction(row[d, kind]) * office[kind].weight for d in range(row.days) for kind in office.kinds)


def is_plan(office, gaps, row):
    """Whether gaps and a row of the office are a plan, by [7]."""
    first, last = told(office, gaps), days_behind(office, gaps, row)[-1]
    same = all(seen_by(office[name], first) == seen_by(office[name], last) for name in office.checks)
    return sum(first.values()) == 1 and row.days == office.days and same and passes(office, gaps, row)


def prices(office, weights, day):
    """The prices of the accounts ahead of the looks of a day of the first round, by [8]."""
    found = {account: Fraction(0) for account in office.accounts}
    for account in found:
        for name, end in weights.ends:
            found[account] += fraction(end) * office[name][account]
        for (on, name), number in weights.looks:
            if on < day:
                found[account] -= fraction(number) * office[name][account]
    return found


def holds(office, weights, number, times):
    """The conditions 1 and 2 of [8] for a number, with each weight of a kind so many times."""
    for day in range(office.days):
        at = prices(office, weights, day)
        for name in office.kinds:
            shift = office[name]
            if not shift.days or day in shift.days:
                if sum(change * at[account] for account, change in shift.changes.items()) > shift.weight * times:
                    return False
    for account in office.accounts:
        total = sum((fraction(y) * office[name][account] for (_, name), y in weights.looks), Fraction(0))
        if total != -fraction(number):
            return False
    return True


def least(office, weights, rate, gaps, row, thefts=()):
    """The sum of [9] for a row with thefts."""
    def worth(day, values):
        at = prices(office, weights, day % office.days)
        return sum((at[name] + (day // office.days) * fraction(rate)) * gap for name, gap in values.items())

    last = days_behind(office, gaps, row, thefts)[-1]
    found = worth(row.days, last) - worth(0, told(office, gaps))
    return found - sum(worth(day, {account: fraction(number)}) for day, account, number in thefts)


def has_blind_place(office):
    """Whether some gaps with the hole 1 are seen by no check, by [11]: 1 for all accounts is no sum of multiples."""
    rows = [[Fraction(office[name][account]) for account in office.accounts] for name in office.checks]
    ones = [Fraction(1) for _ in office.accounts]
    while rows:
        row = rows.pop()
        at = next((at for at, number in enumerate(row) if number), None)
        if at is not None:
            rows = [[n - other[at] / row[at] * m for n, m in zip(other, row)] for other in rows]
            ones = [n - ones[at] / row[at] * m for n, m in zip(ones, row)]
    return any(ones)


def pinned_places(office, hole):
    """For each day of the round of an office of two accounts a and b what the gap of a must be, of a hole above 0.

    None stands for any gap. Returns None if the looks of some day let no gap be.
    """
    found = []
    for day in range(office.days):
        wanted = set()
        for name in office.checks:
            check = office[name]
            if day in check.days:
                # The check sees x times its coefficient of a and (hole - x) times that of b.
                a, b = check["a"], check["b"]
                wanted.add(Fraction(-b * hole, a - b) if a != b else None)
        if None in wanted or len(wanted) > 1:
            return None
        found.append(min(wanted) if wanted else None)
    return found


def cheapest(office, days, sign):
    """What one unit costs at least that raises or lowers the gap of a, on one of these days; None if none can."""
    costs = [
        Fraction(office[kind].weight, abs(office[kind]["a"]))
        for kind in office.kinds for day in days
        if office[kind]["a"] * sign > 0 and (not office[kind].days or day % office.days in office[kind].days)
    ]
    return min(costs, default=None)


def moving_cost(office, days, change):
    """What it costs at least to change the gap of a so much on these days; None if it cannot be done."""
    if change == 0:
        return Fraction(0)
    cost = cheapest(office, days, change)
    return None if cost is None else abs(change) * cost


def rate_of_two(office):
    """The rate of an office of the accounts a and b, by moving from one day that pins the gaps to the next one.

    None if there is no plan.
    """
    places = pinned_places(office, 1)
    if places is None:
        return None
    at = [day for day in range(office.days) if places[day] is not None]
    total = Fraction(0)
    for here, there in zip(at, at[1:] + [at[0] + office.days] if at else []):
        change = places[there % office.days] - places[here]
        cost = moving_cost(office, range(here + 1, there + 1), change)
        if cost is None:
            return None
        total += cost
    return total


def holding_cost_of_two(office, gaps, day, days):
    """The least weight of a row of so many days that passes, in an office of the accounts a and b; None if none does.

    The gaps are a dict of fractions, those ahead of this day of the round.
    """
    hole, at, total, since = gaps["a"] + gaps["b"], gaps["a"], Fraction(0), day
    for now in range(day, day + days):
        checks = [office[name] for name in office.checks if now % office.days in office[name].days]
        if not checks:
            continue
        wanted = {Fraction(-check["b"] * hole, check["a"] - check["b"]) for check in checks if check["a"] != check["b"]}
        if hole and any(check["a"] == check["b"] for check in checks) or len(wanted) > 1:
            return None
        if not wanted:
            continue
        there = wanted.pop()
        cost = moving_cost(office, range(since, now + 1), there - at)
        if cost is None:
            return None
        total, at, since = total + cost, there, now + 1
    return total


def is_pairs(value, keys):
    """Whether any value is the tuple of the pairs of these keys with Amounts, kinds and all."""
    if type(value) is not tuple or not all(type(pair) is tuple and len(pair) == 2 for pair in value):
        return False
    return same([key for key, _ in value], list(keys)) and all(type(number) is Amount for _, number in value)


def is_told_weights(office, value):
    """Whether any value is Weights of the form of [8]."""
    return type(value) is Weights and is_pairs(value.ends, office.checks) and is_pairs(value.looks, office.looks)


def is_told_gaps(office, value):
    return type(value) is Gaps and all(name in office.accounts for name in value.accounts)


def shows_plan(office, answer, bound):
    """Whether any value is an answer that shows a plan below a bound, as told under holeshift/hands.py."""
    if type(answer) is not Lasting or not is_told_gaps(office, answer.gaps) or type(answer.row) is not Row:
        return False
    if not answer.row.twin_office() == office or not is_plan(office, answer.gaps, answer.row):
        return False
    return bound is None or paid(office, answer.row) < fraction(bound)


def shows_none(office, answer, bound):
    """Whether any value is an answer that shows no plan below a bound, as told under holeshift/hands.py."""
    if type(answer) not in (Lasting, Limited, Blocked) or not is_told_weights(office, answer.weights):
        return False
    if type(answer) is Lasting:
        if bound is None or not Amount.is_number(answer.rate) or fraction(answer.rate) < fraction(bound):
            return False
        return holds(office, answer.weights, answer.rate, 1)
    zero = all(end == 0 for _, end in answer.weights.ends)
    return holds(office, answer.weights, 1, 0) and (zero or type(answer) is Limited)


def is_least_set(parts, known, paper, office_of, shows, bound):
    """Whether a paper's parts are an ascending tuple of known ones, and its answers show what they must.

    The first of shows is asked of its answer, for the office of its parts, the second one of its less, for each part.
    """
    if type(parts) is not tuple or type(paper.less) is not tuple or len(parts) != len(paper.less):
        return False
    if not all(any(same(part, own) for own in known) for part in parts) or list(parts) != sorted(set(parts)):
        return False
    return shows[0](office_of(parts), paper.answer, bound) and all(
        shows[1](office_of(parts[:at] + parts[at + 1:]), less, bound) for at, less in enumerate(paper.less)
    )


def ring():
    return make(2, "ab", {
        "up": Shift({"a": -1, "b": 1}, hand="bob"), "down": Shift({"a": 1, "b": -1}, hand="eve"),
        "seea": Count("a", 0), "seeb": Count("b", 1),
    })


def one_way():
    """A limited office: what is missing can pass one round, but not come back."""
    office = ring()
    office.drop("up")
    return office


def one_way_back():
    """A blocked office: what is missing in b on day 0 cannot leave it on day 1."""
    office = ring()
    office.drop("down")
    return office


def sided():
    """An office in which only one's hand moves both sides, at unlike weights."""
    return make(3, "abc", {
        "ab": Shift({"a": -1, "b": 1}, weight=3), "bc": Shift({"b": -2, "c": 2}, 0, 2, weight=7),
        "ca": Shift({"c": -1, "a": 1}, 1, 2, weight=100), "ba": Shift({"b": -1, "a": 1}, 2),
        "seea": Count("a", 0), "seeb": Total(["b"], 1), "seec": Match(["c"], ["b"], 2, 1),
    })


def full():
    """An office with as many kinds, checks, shifts and looks as there may be, of five accounts and five days."""
    office = Office(5, *"abcde")
    pairs = ["ab", "bc", "cd", "de", "ea", "ba", "cb", "dc", "ed", "ae", "ac", "ce"]
    for at, (one, other) in enumerate(pairs):
        days = [day for day in range(5) if day != at % 5]
        changes, weight = {one: -(at % 3 + 1), other: at % 3 + 1}, at * at % 100 + 1
        office[one + other] = Shift(changes, *days, weight=weight, hand="h" + one)
    for at, account in enumerate("abcde"):
        office["see" + account] = Count(account, at)
    office["some"], office["other"] = Total(["a", "b"], 2, 3, 4), Match(["c", "d"], ["a"], 0, 1)
    office["more"] = Total(["d", "e"], 0, 1)
    return office


def offices():
    """Offices of all sorts."""
    blind = ring()
    blind.drop("seeb")
    both = ring().with_looks((1, "seea"), (0, "seeb"))
    dear = make(2, "ab", {
        "up": Shift({"a": -1, "b": 1}, weight=100), "down": Shift({"a": 9, "b": -9}, weight=100), "x": Count("a", 0),
        "y": Count("b", 1),
    })
    no_kinds = make(2, "ab", {"x": Count("a", 0), "y": Count("b", 1)})
    return [
        Office(1, "a"), Office(5, *"abcde"), make(1, "a", {"x": Count("a", 0)}), make(5, "a", {"x": Count("a", 3)}),
        make(1, "ab", {"x": Total(["a", "b"], 0)}), make(1, "ab", {"x": Match(["a"], ["b"], 0)}),
        make(3, "ab", {"up": Shift({"a": -1, "b": 1})}), no_kinds, ring(), one_way(), one_way_back(), blind, both, dear,
        sided(), full(), ring() << 1, ring() * 2, sided().without_hands("any"), full().without_hands("ha"),
    ]


def some_changes(chance, accounts):
    while True:
        chosen = chance.sample(accounts, chance.randint(2, len(accounts)))
        numbers = [chance.randint(-2, 2) for _ in chosen]
        if sum(numbers) == 0 and all(numbers):
            return dict(zip(chosen, numbers))


def some_check(chance, accounts, days):
    days = chance.sample(range(days), chance.randint(1, min(days, 2)))
    chosen = chance.sample(accounts, chance.randint(1, len(accounts)))
    cut = chance.randint(1, len(chosen))
    if cut == len(chosen):
        return Total(chosen, *days) if cut > 1 else Count(chosen[0], *days)
    return Match(chosen[:cut], chosen[cut:], *days)


def some_office(chance):
    """An office by chance: with few looks and many kinds, so that not nearly all are blocked."""
    accounts, days = "abcde"[:chance.randint(2, 5)], chance.randint(1, 5)
    office = Office(days, *accounts)
    for letter in "abcdefghi"[:chance.randint(0, 9)]:
        on = chance.sample(range(days), chance.randint(1, days)) if chance.random() < 0.3 else []
        weight = chance.choice([1, 2, 3, 100])
        office["k" + letter] = Shift(some_changes(chance, accounts), *on, weight=weight, hand=chance.choice("xyz"))
    for letter in "abcd"[:chance.randint(1, 4)]:
        office["c" + letter] = some_check(chance, accounts, days)
    return office


def some_offices(seed, count):
    chance = random.Random(seed)
    return [some_office(chance) for _ in range(count)]


def gaps_of(values):
    return Gaps({account: amount(number) for account, number in values.items()})
