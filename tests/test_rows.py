"""The promises of the points [5] and [6] and under holeshift/rows.py."""

import itertools
import unittest

from holeshift.amounts import Amount
from holeshift.errors import BadAmount, BadDay, BadRow, NoAccount, NoKind, TooMany
from holeshift.gaps import Gaps
from holeshift.items import Count, Match, Shift, Total
from holeshift.offices import Office
from holeshift.rows import Row
from tests.helper import NO_INTEGERS, Case, any_values, not_ints

METHODS = [
    "__init__", "twin_office", "__getitem__", "__setitem__", "drop", "__contains__", "__len__", "shifts", "weight_on",
    "after", "last", "seen", "passes", "__add__", "__iadd__", "__mul__", "__rmul__", "__imul__", "scaled", "joined",
    "only", "rounds", "twin", "__eq__",
]
BIG = 10 ** 30 - 1
NUMBERS = [0, 1, 7, BIG, Amount(0), Amount(1, 2), Amount(BIG, 7), Amount(1, BIG)]
NO_NUMBERS = [value for value in any_values() if not Amount.is_number(value)] + [-1, Amount(-1, 2), -BIG]


def make(days, accounts, items):
    office = Office(days, *accounts)
    for name, item in items.items():
        office[name] = item
    return office


def two():
    """The office of the document's examples, with a kind more."""
    return make(2, "ab", {
        "ab": Shift({"a": -1, "b": 1}, 0, 1), "ba": Shift({"a": 1, "b": -1}, 0, 1, weight=2), "ca": Count("a", 0),
        "cb": Count("b", 1), "late": Shift({"a": -2, "b": 2}, 1, weight=3),
    })


def three():
    return make(3, "abc", {
        "on": Shift({"a": -1, "b": 1}), "to": Shift({"b": -2, "c": 1, "a": 1}, 2, 0, weight=5),
        "x": Match(["a"], ["c"], 1), "y": Total(["a", "b"], 2, 0), "w": Count("c", 0),
    })


def small():
    return make(1, "a", {"c": Count("a", 0)})


def rows():
    """Some rows, no two equal."""
    return [
        Row(two()), Row(two(), 1), Row(two(), 3), Row(two(), 2, [(0, "ab", 1), (1, "ba", 1)]),
        Row(two(), 2, [(0, "ab", 1)]),
        Row(two(), 4, [(3, "late", Amount(1, 3)), (0, "ba", 5), (0, "ab", 2), (2, "ab", Amount(7, 2))]),
        Row(two(), 40, [(39, "late", BIG), (0, "ab", Amount(1, BIG)), (38, "ba", 1)]), Row(three()),
        Row(three(), 6, [(5, "to", 2), (4, "on", Amount(2, 3)), (2, "to", 1), (2, "on", 1)]),
        Row(three(), 5, [(4, "on", 1), (3, "to", 1)]), Row(small(), 1), Row(small(), 40), Row(two() << 1, 2),
    ]


def shape(row):
    """All that a row tells of itself."""
    office = row.twin_office()
    items = [(name, str(office[name])) for name in office.names]
    amounts = {(day, kind): row[day, kind] for day in range(row.days) for kind in office.kinds}
    return office.days, office.accounts, items, row.days, amounts


def told(row):
    return {at: amount for at, amount in shape(row)[4].items() if amount != 0}


class RowCase(Case):
    def assert_row(self, row, office, days, amounts):
        """The row tells just this in all of its readings that take no gaps."""
        self.assertIs(type(row), Row)
        self.assertTrue(row.twin_office() == office)
        places = [(day, kind) for day in range(days) for kind in office.kinds]
        wanted = {at: Amount.of(amounts.get(at, 0)) for at in places}
        self.assert_same([row.days, {at: row[at] for at in places}], [days, wanted])
        above = [(day, kind, wanted[day, kind]) for day, kind in places if wanted[day, kind] != 0]
        self.assert_same([list(row.shifts()), len(row)], [above, len(above)])
        self.assert_same(row.lines, tuple(f"{day} {kind} {amount}" for day, kind, amount in above))
        for at in places:
            self.assertIs(at in row, wanted[at] != 0)
        weights = [[office[kind].weight * amount for day, kind, amount in above if day == on] for on in range(days)]
        self.assert_same([row.weight_on(day) for day in range(days)], [Amount.total(found) for found in weights])
        self.assert_same(row.weight, Amount.total(sum(weights, [])))
        change = {name: Amount.total([office[k][name] * amount for _, k, amount in above]) for name in office.accounts}
        self.assert_same(row.change, Gaps(change))

    def assert_unchanged(self, wanted, row, work, *args):
        before = shape(row)
        error = self.assert_raises(wanted, work, *args)
        self.assert_same(shape(row), before)
        return error


class TestMaking(RowCase):
    def test_defined_here(self):
        self.assert_defines(Row, METHODS)
        for name in ("days", "weight", "change", "lines"):
            self.assertIsInstance(vars(Row)[name], property)
        self.assert_same([vars(Row)["MOST_DAYS"], Row.__module__], [40, "holeshift.rows"])

    def test_made(self):
        self.assert_row(Row(two()), two(), 2, {})
        self.assert_row(Row(three(), None, []), three(), 3, {})
        for days in (1, 2, 5, 39, 40):
            self.assert_row(Row(three(), days), three(), days, {})
        amounts = {(0, "ab"): 1, (1, "late"): Amount(1, 2), (2, "ba"): BIG}
        shifts = [(day, kind, number) for (day, kind), number in amounts.items()]
        for found in (shifts, tuple(shifts), list(reversed(shifts))):
            self.assert_row(Row(two(), 3, found), two(), 3, amounts)
        self.assert_row(Row(office=two(), days=3, shifts=shifts), two(), 3, amounts)
        self.assert_row(Row(two(), 2, [(0, "ab", 1), (1, "ab", 2), (0, "ab", 0)]), two(), 2, {(1, "ab"): 2})
        self.assert_row(Row(two(), 2, [(0, "ab", 0), (0, "ab", Amount(3))]), two(), 2, {(0, "ab"): 3})

    def test_no_days(self):
        for value in not_ints(1, 40):
            if value is not None:
                self.assert_raises(BadRow("days"), Row, two(), value)
                self.assert_raises(BadRow("days"), Row, two(), value, [(9, "x", None)])

    def test_first_wrong_shift(self):
        for shifts, error in (
            ([(0, "ab", 1), (2, "ab", 1), (0, "ca", 1)], BadDay(2)), ([(0, "ca", -1), (2, "ab", 1)], NoKind("ca")),
            ([(0, "late", -1)], BadDay(0)), ([(1, "late", -1), (5, "ab", 1)], BadAmount(-1)),
            (((True, "ab", 1),), BadDay(True)), (((1, ["ab"], 1),), NoKind(["ab"])),
            (((1, "ab", True),), BadAmount(True)),
        ):
            self.assert_raises(error, Row, two(), 2, shifts)

    def test_own_copies(self):
        office, shifts = two(), [(0, "ab", 1)]
        row = Row(office, 2, shifts)
        shifts.append((1, "ab", 1))
        office["ab"] = Shift({"a": -1, "b": 1}, weight=9)
        office.drop("ba")
        office.set_days(5)
        self.assert_row(row, two(), 2, {(0, "ab"): 1})
        self.assertEqual(shifts, [(0, "ab", 1), (1, "ab", 1)])
        found = row.twin_office()
        found.drop("ab")
        self.assert_row(row, two(), 2, {(0, "ab"): 1})


class TestReadingAndSetting(RowCase):
    def test_set(self):
        row, amounts = Row(two(), 3), {}
        for day, kind, number in (
            (0, "ab", 1), (2, "ba", Amount(1, 2)), (1, "late", 3), (0, "ab", BIG), (0, "ab", 0), (1, "ba", Amount(0)),
            (0, "ba", Amount(BIG, 3)), (2, "ba", 1), (1, "late", Amount(0)),
        ):
            row[day, kind] = number
            amounts[day, kind] = number
            self.assert_row(row, two(), 3, amounts)

    def test_drop(self):
        row = Row(two(), 3, [(0, "ab", 1), (1, "late", 2)])
        self.assertIsNone(row.drop(0, "ab"))
        self.assert_row(row, two(), 3, {(1, "late"): 2})
        row.drop(0, "late")
        row.drop(day=2, kind="ba")
        self.assert_row(row, two(), 3, {(1, "late"): 2})

    def test_no_place(self):
        row = Row(two(), 3, [(0, "ab", 1)])
        for value in not_ints(0, 2):
            for kind in ("ab", "x", None):
                for work in (row.__getitem__, row.__setitem__):
                    args = [(value, kind)] + ([-1] if work == row.__setitem__ else [])
                    self.assertIs(self.assert_unchanged(BadDay(value), row, work, *args).value, value)
                self.assert_unchanged(BadDay(value), row, row.drop, value, kind)
        for value in any_values() + ["ca", "AB", "abc"]:
            for day in (0, 2):
                self.assertIs(self.assert_unchanged(NoKind(value), row, row.__getitem__, (day, value)).name, value)
                self.assert_unchanged(NoKind(value), row, row.__setitem__, (day, value), None)
                self.assert_unchanged(NoKind(value), row, row.drop, day, value)

    def test_no_setting(self):
        row = Row(two(), 3, [(1, "late", 1)])
        for day in (0, 2):
            for number in (1, 0, None, -1):
                self.assert_unchanged(BadDay(day), row, row.__setitem__, (day, "late"), number)
        for value in NO_NUMBERS:
            for place in ((1, "late"), (0, "ab")):
                self.assertIs(self.assert_unchanged(BadAmount(value), row, row.__setitem__, place, value).value, value)

    def test_contains_any_value(self):
        row = Row(two(), 2, [(1, "ab", 1), (0, "ba", 1)])
        for value in any_values() + [
            (1, "ab", 1), [1, "ab"], (True, "ab"), (Amount(1), "ab"), ("ab", 1), (1,), (2, "ab"), (-1, "ab"), (1, "ba"),
            (0, "ab"), (1, ["ab"]), (1, None), ((1, "ab"),), ([1], "ab"),
        ]:
            self.assertIs(value in row, False)
        self.assertIs((1, "ab") in row and (0, "ba") in row, True)

    def test_no_day_of_weight(self):
        row = Row(two(), 3)
        for value in not_ints(0, 2):
            self.assertIs(self.assert_raises(BadDay(value), row.weight_on, value).value, value)

    def test_not_iterated_over(self):
        with self.assertRaises(TypeError):
            list(Row(two()))

    def test_readings(self):
        for row in rows():
            self.assert_row(row, row.twin_office(), row.days, told(row))


class TestGaps(RowCase):
    def behind(self, row, gaps):
        """The gaps behind each day, as dicts, by the definition [4]."""
        office, found = row.twin_office(), []
        now = {account: gaps[account] for account in office.accounts}
        for day in range(row.days):
            for kind in office.kinds_on(day):
                for account, change in office[kind].changes.items():
                    now[account] = now[account] + change * row[day, kind]
            found.append(Gaps(dict(now)))
        return found

    def first_seen(self, row, gaps):
        """What `seen` tells, by the definitions [5] and [6]."""
        office = row.twin_office()
        for day, behind in enumerate(self.behind(row, gaps)):
            for name in office.checks:
                if day % office.days in office[name].days:
                    amount = Amount.total([office[name][account] * behind[account] for account in office.accounts])
                    if amount != 0:
                        return day, name, amount
        return None

    def test_after_last_seen(self):
        passed = 0
        for row in rows():
            for values in ({}, {"a": 1}, {"a": Amount(1, 2)}, {"a": -3}, {"a": BIG}, {"a": Amount(-2, BIG)}):
                gaps = Gaps(values)
                before = shape(row)
                wanted = self.behind(row, gaps)
                self.assert_same([list(row.after(gaps)), row.last(gaps)], [wanted, wanted[-1]])
                seen = self.first_seen(row, gaps)
                self.assert_same([row.seen(gaps), row.passes(gaps)], [seen, seen is None])
                self.assert_same([shape(row), str(gaps)], [before, str(Gaps(values))])
                passed += seen is None
        self.assertGreater(passed, 5)

    def test_seen_by_days_then_by_names(self):
        checks = {"z": Count("a", 0), "m": Count("b", 0), "x": Total(["a", "b"], 0, 1), "b": Count("b", 1)}
        office = make(2, "ab", checks)
        row = Row(office, 4)
        for values, wanted in (
            ({"a": 1, "b": 1}, (0, "m", Amount(1))), ({"a": 1}, (0, "x", Amount(1))),
            ({"a": 1, "b": -1}, (0, "m", Amount(-1))), ({}, None),
        ):
            self.assert_same(row.seen(Gaps(values)), wanted)
        later = make(2, "ab", {"z": Count("a", 1), "a": Count("b", 1)})
        self.assert_same(Row(later, 3).seen(Gaps({"a": 2})), (1, "z", Amount(2)))
        self.assert_same(Row(later, 1).seen(Gaps({"a": 2})), None)

    def test_a_row_begins_on_day_0(self):
        row = Row(two(), 3, [(0, "ab", 1), (1, "ba", 1), (2, "ab", 1)])
        self.assertTrue(row.passes(gaps=Gaps({"a": 1})))
        self.assert_same(row.last(gaps=Gaps({"a": 1})), Gaps({"b": 1}))

    def test_no_account(self):
        row = Row(two())
        gaps = Gaps({"a": 1, "c": 1, "bb": Amount(1, 2), "z": 1})
        for work in (
            row.last, row.seen, row.passes, lambda gaps: next(row.after(gaps)), lambda gaps: list(row.after(gaps)),
        ):
            self.assert_raises(NoAccount("bb"), work, gaps)
        self.assert_raises(NoAccount("aa"), row.seen, Gaps({"aa": 1, "b": 1}))

    def test_facts(self):
        one = Row(two(), 4, [(0, "ab", 1), (1, "ba", 1), (2, "ab", 1), (3, "ba", 1)])
        shifts = [(0, "ab", 3), (1, "late", Amount(1, 2)), (1, "ba", 4), (2, "ab", 3), (3, "ba", 3)]
        other = Row(two(), 4, shifts)
        gaps, rest = Gaps({"a": 1}), Gaps({"a": 3})
        self.assertTrue(one.passes(gaps) and other.passes(rest))
        for number in NUMBERS:
            self.assertTrue(one.scaled(number).passes(gaps * number))
            self.assert_same(one.scaled(number).weight, one.weight * number)
        self.assertTrue(one.joined(other).passes(gaps + rest))
        self.assert_same(one.joined(other).weight, one.weight + other.weight)


class TestGenerators(RowCase):
    def test_as_it_is_at_the_first_item(self):
        row = Row(two(), 4, [(0, "ab", 1)])
        shifts, after, rounds = row.shifts(), row.after(Gaps({"a": 1})), row.rounds()
        row[1, "ba"] = 2
        self.assert_same([next(shifts), next(after)], [(0, "ab", Amount(1)), Gaps({"b": 1})])
        self.assert_row(next(rounds), two(), 2, {(0, "ab"): 1, (1, "ba"): 2})
        row[1, "ba"] = 3
        row.drop(0, "ab")
        row[2, "ab"] = 5
        self.assert_same(list(shifts), [(1, "ba", Amount(2))])
        self.assert_same(list(after), [Gaps({"a": 2, "b": -1})] * 3)
        (last,) = list(rounds)
        self.assert_row(last, two(), 2, {})

    def test_rounds(self):
        for row in rows():
            long = row.twin_office().days
            found = list(row.rounds())
            self.assertEqual(len(found), row.days // long)
            for at, one in enumerate(found):
                wanted = {(day - at * long, kind): n for (day, kind), n in told(row).items() if day // long == at}
                self.assert_row(one, row.twin_office(), long, wanted)
        self.assert_same(list(Row(two(), 1).rounds()), [])

    def test_rounds_go_their_own_ways(self):
        row = Row(two(), 4, [(0, "ab", 1)])
        first, last = list(row.rounds())
        first[1, "ab"] = 7
        self.assert_row(row, two(), 4, {(0, "ab"): 1})
        self.assert_row(last, two(), 2, {})


class TestOperators(RowCase):
    def assert_free(self, row, work):
        """The work returns a row that goes its own way, and leaves the first one as it was."""
        before = shape(row)
        made = work(row)
        self.assert_same(shape(row), before)
        self.assertIsNot(made, row)
        kept = shape(made)
        made[0, "ab"] = 77
        self.assert_same(shape(row), before)
        other = work(row)
        row[0, "ab"] = 55
        row.drop(1, "ba")
        self.assert_same(shape(other), kept)

    def test_go_their_own_ways(self):
        for work in (
            lambda row: row + Row(two()), lambda row: row * 1, lambda row: 2 * row, lambda row: row.scaled(1),
            lambda row: row.joined(Row(two())), lambda row: row.only(["ab", "ba", "late"]), lambda row: row.twin(),
        ):
            self.assert_free(Row(two(), 2, [(0, "ab", 1), (1, "ba", 1)]), work)

    def test_sums(self):
        for one, other in itertools.product(rows(), rows()):
            days = one.days + other.days
            if one.twin_office() != other.twin_office():
                error = BadRow("office")
            elif one.days % one.twin_office().days:
                error = BadRow("days")
            elif days > 40:
                error = TooMany("days", 40)
            else:
                wanted = {**told(one), **{(day + one.days, kind): n for (day, kind), n in told(other).items()}}
                self.assert_row(one + other, one.twin_office(), days, wanted)
                self.assert_row(self.add(one, other), one.twin_office(), days, wanted)
                continue
            self.assert_unchanged(error, one, lambda: one + other)
            self.assert_unchanged(error, other, self.add, one, other)

    def add(self, one, other):
        kept, before = one, shape(one)
        one += other
        self.assert_same(shape(kept), before)
        return one

    def multiply(self, row, count):
        kept, before = row, shape(row)
        row *= count
        self.assert_same(shape(kept), before)
        return row

    def test_products(self):
        for row in rows():
            long = row.twin_office().days
            for count in (1, 2, 3, 10, 20, 21, 40, 41, 10 ** 59):
                if row.days % long:
                    error = BadRow("days")
                elif row.days * count > 40:
                    error = TooMany("days", 40)
                else:
                    wanted = {(d + at * row.days, k): n for (d, k), n in told(row).items() for at in range(count)}
                    for found in (row * count, count * row, self.multiply(row, count)):
                        self.assert_row(found, row.twin_office(), row.days * count, wanted)
                    continue
                for work in (lambda: row * count, lambda: count * row, lambda: self.multiply(row, count)):
                    self.assert_unchanged(error, row, work)

    def test_no_other_operands(self):
        # The document does not promise it, but True must not pass for 1.
        row = Row(two())
        for value in NO_INTEGERS + [Amount(1), Amount(1, 2), Gaps()]:
            for work in (lambda: row * value, lambda: value * row, lambda: row + value, lambda: value + row):
                self.assertRaises(TypeError, work)

    def test_scaled(self):
        for row in rows():
            before = shape(row)
            for number in NUMBERS:
                wanted = {at: amount * number for at, amount in told(row).items()}
                self.assert_row(row.scaled(number), row.twin_office(), row.days, wanted)
            for value in NO_NUMBERS:
                self.assertIs(self.assert_raises(BadAmount(value), row.scaled, value).value, value)
            self.assert_same(shape(row), before)

    def test_joined(self):
        for one, other in itertools.product(rows(), rows()):
            if one.twin_office() != other.twin_office():
                self.assert_unchanged(BadRow("office"), one, one.joined, other)
            elif one.days != other.days:
                self.assert_unchanged(BadRow("days"), one, one.joined, other)
            else:
                wanted = {at: told(one).get(at, 0) + told(other).get(at, 0) for at in {**told(one), **told(other)}}
                self.assert_row(one.joined(other), one.twin_office(), one.days, wanted)

    def test_only(self):
        for row in rows():
            kinds = row.twin_office().kinds
            for many in range(len(kinds) + 1):
                for alone in itertools.permutations(kinds, many):
                    wanted = {at: amount for at, amount in told(row).items() if at[1] in alone}
                    for passed in (alone, list(alone), alone + alone):
                        self.assert_row(row.only(passed), row.twin_office(), row.days, wanted)

    def test_only_of_no_kind(self):
        row = Row(two(), 2, [(0, "ab", 1)])
        for value in any_values() + ["ca", "x", ["ab"], ("ab",)]:
            self.assertIs(self.assert_unchanged(NoKind(value), row, row.only, ["ab", value, "ba", None]).name, value)
            self.assert_unchanged(NoKind(value), row, row.only, (value,))

    def test_equals(self):
        for (at, one), (place, other) in itertools.product(enumerate(rows()), enumerate(rows())):
            self.assert_same([one == other, one != other], [at == place, at != place])
        row = Row(two(), 2, [(1, "ba", 1), (0, "ab", Amount(2, 2))])
        row[1, "late"] = 3
        row.drop(1, "late")
        self.assertTrue(row == Row(two(), None, [(0, "ab", 1), (1, "ba", 1)]))

    def test_equals_nothing_else(self):
        for row in rows():
            for value in any_values():
                if not isinstance(value, Row):
                    self.assert_same([row == value, value == row, row != value], [False, False, True])

    def test_twin(self):
        for row in rows():
            self.assertTrue(row.twin() == row)
            self.assert_row(row.twin(), row.twin_office(), row.days, told(row))


if __name__ == "__main__":
    unittest.main()
