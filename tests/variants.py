"""Values near a value: with one thing otherwise."""

from holeshift.amounts import Amount
from holeshift.blinds import Blind, Pinned
from holeshift.compare import Miss, Sums, Sure
from holeshift.gaps import Gaps
from holeshift.hands import Band, Guard
from holeshift.holding import Caught, Held
from holeshift.menus import Slip, Watch
from holeshift.prices import Blocked, Lasting, Limited
from holeshift.rows import Row
from holeshift.weights import Weights

# The names of the fields of each paper.
FIELDS = {
    Weights: "ends looks", Lasting: "rate gaps row weights", Limited: "weights", Blocked: "weights", Blind: "gaps",
    Pinned: "multiples", Band: "hands answer less", Guard: "hands answer less", Watch: "looks answer less",
    Slip: "looks answer less", Held: "weight row looks", Caught: "looks", Miss: "day name rows",
    Sure: "day multiples", Sums: "table",
}
# Papers that have as many fields; one of them in the place of another one is wrong.
ALIKE = [
    (Limited, Blocked), (Band, Guard, Watch, Slip, Held, Miss), (Weights, Sure), (Blind, Pinned, Caught, Sums, Limited),
]


def fields(paper):
    return [getattr(paper, name) for name in FIELDS[type(paper)].split()]


def near_amount(amount):
    yield from (amount + 1, amount - 1, -amount, amount.over(2), str(amount), None, (amount,), amount.top, True)


def near_int(number):
    yield from (number + 1, number - 1, -number, Amount(number), str(number), None, bool(number), [number])


def near_text(text):
    yield from (text + "x", text[1:], text.upper(), "", None, (text,), 0)


def near_tuple(parts):
    yield from (list(parts), (), None, parts + (None,), parts + parts[-1:], parts[::-1], dict(enumerate(parts)))
    for at in range(len(parts)):
        yield parts[:at] + parts[at + 1:]
        yield parts[:at] + parts[at:at + 1] + parts[at:]
        for other in near(parts[at]):
            yield parts[:at] + (other,) + parts[at + 1:]


def near_gaps(gaps):
    yield from (gaps + Gaps.lone("a"), gaps - Gaps.lone("a"), gaps * 2, -gaps, Gaps(), str(gaps), None)
    yield from (gaps + Gaps({"a": 1, "b": -1}), gaps + Gaps({"z": 1, "a": -1}), gaps + Gaps.lone("z"))
    yield {name: gaps[name] for name in gaps.accounts}


def near_row(row):
    yield from (row.lines, None, row.scaled(2), row.scaled(0), row.twin_office())
    office, shifts = row.twin_office(), list(row.shifts())
    for days in (row.days + 1, row.days - 1, row.days + office.days):
        if 1 <= days <= 40:
            yield Row(office, days, [shift for shift in shifts if shift[0] < days])
    for day in range(row.days):
        for kind in office.kinds_on(day):
            more = row.twin()
            more[day, kind] = more[day, kind] + Amount(1, 2)
            yield more
    for day, kind, _ in shifts:
        less = row.twin()
        less.drop(day, kind)
        yield less
    if shifts:
        office[shifts[0][1]] = office[shifts[0][1]] * 1
        office.drop(next(name for name in office.names if name != shifts[0][1]))
        day, kind, amount = shifts[0]
        yield Row(office, row.days, [(day, kind, amount)])


def near_paper(paper):
    told = fields(paper)
    for at, value in enumerate(told):
        for other in near(value):
            yield type(paper)(*told[:at], other, *told[at + 1:])
    for alike in ALIKE:
        if type(paper) in alike:
            for owner in alike:
                if owner is not type(paper):
                    yield owner(*told)
    yield from (tuple(told), told[0], None)


def near(value):
    """Values of which most are not equal to this one, but have only one thing otherwise."""
    if type(value) is bool or value is None:
        return iter((not value, 0))
    for kind, told in (
        (Amount, near_amount), (int, near_int), (str, near_text), (tuple, near_tuple), (Gaps, near_gaps),
        (Row, near_row),
    ):
        if type(value) is kind:
            return told(value)
    return near_paper(value)


def some_near(chance, value, most):
    """Not more than so many values near this one, chosen by chance."""
    found = list(near(value))
    return found if len(found) <= most else chance.sample(found, most)
