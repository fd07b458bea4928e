"""The promises of the points [6] and [9], and under holeshift/holding.py."""

import random
import time
import unittest

from holeshift.amounts import Amount
from holeshift.blinds import blind
from holeshift.errors import BadBound, BadDay, NoAccount, TooMany
from holeshift.gaps import Gaps
from holeshift.holding import Caught, Held, Holding, held_days, hold, shows_hold
from holeshift.items import Count, Match, Shift
from holeshift.offices import Office
from holeshift.prices import price
from holeshift.rows import Row
from tests.definitions import (
    fraction, full, holding_cost_of_two, is_pairs, make, offices, one_way, paid, passes, ring, sided,
    some_offices, told,
)
from tests.helper import Case, any_values, not_ints
from tests.test_hands import of_two
from tests.test_prices import figures
from tests.variants import some_near

BIG = 10 ** 30 - 1
NO_WEIGHTS = [value for value in any_values() if not Amount.is_number(value) or value < 0] + [-1, Amount(-1, 9), True]


def till():
    return make(3, "ab", {
        "up": Shift({"a": -1, "b": 1}, hand="bob"), "down": Shift({"a": 1, "b": -1}, hand="eve"),
        "seea": Count("a", 0, 2), "seeb": Count("b", 1),
    })


def begun(office, day):
    """The office whose round begins on this day, made anew."""
    found = Office(office.days, *office.accounts)
    for name in office.names:
        item = office[name]
        found[name] = item.with_days([(own - day) % office.days for own in item.days])
    return found


def looks_of(office, days):
    """The looks of a row of so many days, ascending."""
    return [(t, name) for t in range(days) for name in office.checks if t % office.days in office[name].days]


def are_right_looks(office, gaps, days, looks, times, total):
    """Whether looks are as told for a Held (1, its weight times -1) or a Caught (0, -1), added up anew."""
    if not is_pairs(looks, looks_of(office, days)):
        return False
    for day in range(days):
        at = {
            account: sum(fraction(y) * office[name][account] for (t, name), y in looks if t >= day)
            for account in office.accounts
        }
        for kind in office.kinds:
            shift = office[kind]
            if not shift.days or day % office.days in shift.days:
                if sum(change * at[account] for account, change in shift.changes.items()) > shift.weight * times:
                    return False
        if day == 0 and sum(gap * at[account] for account, gap in told(office, gaps).items()) != total:
            return False
    return True


def is_right(office, gaps, day, days, value):
    """Whether any value is a Held or a Caught as told, added up anew, clause by clause."""
    office = begun(office, day)
    if type(value) is Caught:
        return are_right_looks(office, gaps, days, value.looks, 0, -1)
    if type(value) is not Held or not Amount.is_number(value.weight) or type(value.row) is not Row:
        return False
    row = value.row
    if not row.twin_office() == office or row.days != days or not passes(office, gaps, row):
        return False
    weight = fraction(value.weight)
    return paid(office, row) == weight and are_right_looks(office, gaps, days, value.looks, 1, -weight)


def some_gaps(chance, accounts):
    """Gaps of any sign, none, small or great ones, fractions."""
    numbers = [0, 0, 1, -1, 2, Amount(1, 3), Amount(-7, 2), BIG, Amount(-BIG, BIG - 1)]
    chosen = numbers if chance.random() < 0.3 else numbers[:5]
    return Gaps({account: chance.choice(chosen) for account in accounts})


class HoldCase(Case):
    def assert_hold(self, office, gaps, day, days):
        """What hold tells is right, with numbers of few figures, and the same again."""
        kept, text = office.twin(), str(gaps)
        found = hold(office, gaps, day, days)
        self.assertIn(type(found), (Held, Caught))
        self.assertIs(bool(found), type(found) is Held)
        self.assertTrue(is_right(office, gaps, day, days, found))
        self.assertIs(shows_hold(office, gaps, day, days, found), True)
        self.assertTrue(hold(office=kept, gaps=Gaps.read(text), day=day, days=days) == found)
        self.assertTrue(office == kept and str(gaps) == text)
        numbers = [number for _, number in found.looks]
        if found:
            self.assertIs(type(found.weight), Amount)
            numbers += [found.weight, *[number for _, _, number in found.row.shifts()]]
        most = 100 + sum(2 * figures(gaps[account]) for account in gaps.accounts)
        most += sum(len(str(office[kind].weight)) for kind in office.kinds)
        self.assertTrue(all(figures(number) <= most for number in numbers))
        return found


class TestPapers(Case):
    def test_defined_here(self):
        for owner in (Holding, Held, Caught):
            self.assert_defines(owner, ["__bool__", "__eq__"])
        for owner in (Held, Caught):
            self.assert_defines(owner, ["__init__"])
        for found in (Holding, Held, Caught, hold, held_days, shows_hold):
            self.assertEqual(found.__module__, "holeshift.holding")
        self.assertEqual([Held.__bases__, Caught.__bases__], [(Holding,), (Holding,)])

    def test_keep_any_values(self):
        for value in any_values():
            for paper in (Held(value, [value], None), Held(looks=None, row=[value], weight=value)):
                self.assertIs(paper.weight, value)
                self.assertIs(paper.row[0], value)
                self.assertIsNone(paper.looks)
                self.assertIs(bool(paper), True)
            self.assertIs(Held(1, 2, value).looks, value)
            self.assertIs(Caught(value).looks, value)
            self.assertIs(Caught(looks=value).looks, value)
            self.assertIs(bool(Caught(value)), False)
        self.assertIs(bool(Holding()), False)

    def test_equals(self):
        row = Row(till(), 2, [(0, "up", 1)])
        papers = [
            Holding(), Held(Amount(1), row, ()), Held(Amount(2), row, ()), Held(Amount(1), Row(till(), 2), ()),
            Held(Amount(1), row, ((0, "x"),)), Caught(()), Caught(((0, "x"),)), Caught(None), Held(None, None, None),
        ]
        self.assert_alike_themselves_alone(papers)
        self.assertTrue(Held(Amount(1), row.twin(), ()) == papers[1])


class TestHold(HoldCase):
    def test_two_accounts(self):
        # The least weight is reckoned anew, by what each day pins.
        chance, many = random.Random(61), {Held: 0, Caught: 0}
        for _ in range(250):
            office = of_two(chance)
            gaps = some_gaps(chance, "ab")
            day, days = chance.randrange(office.days), chance.randint(1, 8)
            found = self.assert_hold(office, gaps, day, days)
            wanted = holding_cost_of_two(office, told(office, gaps), day, days)
            self.assertIs(bool(found), wanted is not None)
            if found:
                self.assertEqual(fraction(found.weight), wanted)
            many[type(found)] += 1
        self.assertGreater(min(many.values()), 40)

    def test_found(self):
        wanted = ["0", "1", "1", "2", "3"]
        for days, weight in enumerate(wanted, 1):
            found = self.assert_hold(till(), Gaps({"a": 1}), 1, days)
            self.assertEqual(str(found.weight), weight)
            self.assertEqual(str(self.assert_hold(till(), Gaps({"a": -1}), 1, days).weight), weight)
            for x in (3, Amount(1, 7), BIG):
                more = self.assert_hold(till(), Gaps({"a": x}), 1, days)
                self.assert_same(more.weight, found.weight * x)
        self.assertEqual(str(self.assert_hold(till(), Gaps(), 0, 8).weight), "0")
        self.assertIs(type(self.assert_hold(till().without_hands("eve"), Gaps({"b": 1}), 1, 2)), Caught)

    def test_offices(self):
        chance = random.Random(62)
        for office in offices() + some_offices(63, 40):
            for day in range(office.days):
                gaps = some_gaps(chance, office.accounts)
                self.assert_hold(office, gaps, day, chance.randint(1, 8))

    def test_more_days_and_greater_gaps(self):
        chance = random.Random(64)
        for office in [till(), ring(), sided()] + [of_two(chance) for _ in range(25)] + some_offices(65, 10):
            gaps, day = some_gaps(chance, office.accounts), chance.randrange(office.days)
            last = Amount(0)
            for days in range(1, 9):
                found = self.assert_hold(office, gaps, day, days)
                if found:
                    self.assertTrue(last is not None and found.weight >= last)
                last = found.weight if found else None
                x = chance.choice([2, Amount(1, 3), Amount(BIG, 7)])
                more = self.assert_hold(office, gaps * x, day, days)
                self.assertIs(bool(more), bool(found))
                if found:
                    self.assert_same(more.weight, found.weight * x)

    def test_blind_places(self):
        for office in [Office(2, "a", "b"), make(2, "ab", {"x": Match(["a"], ["b"], 0, 1)})] + some_offices(66, 60):
            place = blind(office)
            if place:
                for days in (1, 8):
                    found = self.assert_hold(office, place.gaps * 5, 0, days)
                    self.assertTrue(found.weight == 0)

    def test_whole_rounds_from_a_plan(self):
        for office in [ring(), till(), sided(), full()] + some_offices(67, 40):
            answer = price(office)
            if not answer:
                continue
            for k in range(1, 8 // office.days + 1):
                for x in (1, Amount(7, 3)):
                    gaps, days = answer.gaps * x, k * office.days
                    found = self.assert_hold(office, gaps, 0, days)
                    # The plan itself passes, and each row pays at least what [9] says.
                    self.assertTrue(found.weight <= answer.rate * k * x)
                    last = found.row.last(gaps)
                    worth = answer.weights.worth(office, last) - answer.weights.worth(office, gaps)
                    self.assertTrue(found.weight >= answer.rate * k * x + worth)

    def test_limited_offices(self):
        found = price(one_way())
        self.assertIs(bool(self.assert_hold(one_way(), Gaps({"b": 1}), 0, 2)), True)
        self.assertIs(bool(self.assert_hold(one_way(), Gaps({"b": 1}), 0, 4)), False)
        self.assertGreaterEqual(2 * found.most_rounds(1), 1)

    def test_begun_later(self):
        office = till()
        for day in range(3):
            found = self.assert_hold(office, Gaps({"a": 1}), day, 5)
            if found:
                self.assertTrue(found.row.twin_office() == office << day)
            other = self.assert_hold(office << day, Gaps({"a": 1}), 0, 5)
            self.assertTrue(found == other)

    def test_bearable_time(self):
        start = time.monotonic()
        wide = make(1, "abcde", {
            "c" + letter: Match(["a", letter], ["e"], 0) if letter in "bcd" else Count(letter, 0) for letter in "abcde"
        })
        for at, pair in enumerate(["ab", "bc", "cd", "de", "ea", "ba", "cb", "dc", "ed", "ae", "ac", "ce"]):
            wide[pair] = Shift({pair[0]: -1, pair[1]: 1}, weight=at * at % 100 + 1)
        gaps = Gaps({"a": 1, "c": Amount(-5, 3), "e": BIG})
        for office in (full(), full() << 3, wide):
            for days in (1, 4, 8):
                for one in (gaps, Gaps({"a": 1}), Gaps({"a": 1, "b": -1})):
                    self.assert_hold(office, one, 0, days)
            held_days(office, gaps, 0, 10)
        self.assertLess(time.monotonic() - start, 60)


class TestHeldDays(HoldCase):
    def test_held_days(self):
        chance, many = random.Random(68), set()
        for office in [till(), ring(), one_way(), sided(), Office(1, "a")] + [of_two(chance) for _ in range(30)]:
            gaps, day = some_gaps(chance, office.accounts), chance.randrange(office.days)
            costs = [hold(office, gaps, day, days) for days in range(1, 9)]
            weights = [0, 1, 2, Amount(5, 2), 10 ** 29]
            for cost in costs:
                weights += [cost.weight, cost.weight.over(2), cost.weight + 1] if cost else []
            for weight in weights:
                wanted = max([0] + [at for at, cost in enumerate(costs, 1) if cost and cost.weight <= weight])
                self.assert_same(held_days(office, gaps, day, weight), wanted)
                many.add(wanted)
        self.assertEqual(many, set(range(9)))

    def test_found(self):
        for weight, days in ((0, 1), (1, 3), (2, 4), (3, 6), (4, 7), (100, 8)):
            self.assert_same(held_days(till(), Gaps({"a": 1}), 1, weight), days)
        self.assert_same(held_days(till().without_hands("eve"), Gaps({"b": 1}), 1, 100), 0)
        self.assert_same(held_days(office=till(), gaps=Gaps(), day=1, weight=0), 8)


class TestWrongInputs(HoldCase):
    def assert_all(self, wanted, office, gaps, day, days):
        """All three raise the same, but for what tells of days."""
        for work in (
            lambda: hold(office, gaps, day, days), lambda: shows_hold(office, gaps, day, days, None),
            lambda: shows_hold(office, gaps, day, days, Caught(())),
        ):
            self.assert_raises(wanted, work)

    def test_accounts_first(self):
        for gaps, name in (
            (Gaps({"c": 1}), "c"), (Gaps({"z": 1, "c": -1, "a": 3}), "c"), (Gaps({"aa": 1, "b": 1, "d": 2}), "aa"),
        ):
            for day in (0, 3, -1, None, True):
                for days in (1, 0, 9, None, "1"):
                    self.assert_all(NoAccount(name), till(), gaps, day, days)
                    self.assert_raises(NoAccount(name), held_days, till(), gaps, day, days)

    def test_days(self):
        for value in not_ints(0, 2):
            for days in (1, 0, 9, None):
                self.assert_all(BadDay(value), till(), Gaps({"a": 1}), value, days)
            for weight in (0, -1, None):
                error = self.assert_raises(BadDay(value), held_days, till(), Gaps(), value, weight)
                self.assertIs(error.value, value)
        for value in not_ints(1):
            self.assert_all(BadDay(value), till(), Gaps({"a": 1}), 2, value)
        for days in (9, 10, 10 ** 60 - 1):
            self.assert_all(TooMany("days", 8), till(), Gaps(), 2, days)

    def test_weights(self):
        for value in NO_WEIGHTS:
            error = self.assert_raises(BadBound(value), held_days, till(), Gaps(), 2, value)
            self.assertIs(error.value, value)

    def test_any_values(self):
        office, gaps = till(), Gaps({"a": 1})
        found, caught = hold(office, gaps, 1, 4), hold(one_way(), Gaps({"b": 1}), 0, 4)
        for value in any_values():
            self.assertIs(shows_hold(office, gaps, 1, 4, value), False)
            for wrong in (
                Held(value, found.row, found.looks), Held(found.weight, value, found.looks),
                Held(found.weight, found.row, value), Caught(value), Held(value, value, value), Caught((value,)),
            ):
                wanted = Amount.is_number(wrong.weight) and wrong.weight == 2 if type(wrong) is Held else False
                if wanted and wrong.row is found.row and wrong.looks is found.looks:
                    self.assertIs(shows_hold(office, gaps, 1, 4, wrong), True)
                else:
                    self.assertIs(shows_hold(office, gaps, 1, 4, wrong), False)
        self.assertIs(shows_hold(one_way(), Gaps({"b": 1}), 0, 4, caught), True)
        self.assertIs(shows_hold(one_way(), Gaps({"b": 1}), 0, 4, Caught(list(caught.looks))), False)

    def test_whole_weights(self):
        found = hold(till(), Gaps({"a": 1}), 1, 4)
        for weight, wanted in (
            (2, True), (Amount(2), True), (True, False), ("2", False), (Amount(5, 2), False), (-2, False),
        ):
            paper = Held(weight, found.row, found.looks)
            self.assertIs(shows_hold(office=till(), gaps=Gaps({"a": 1}), day=1, days=4, value=paper), wanted)

    def test_papers_near(self):
        chance, right = random.Random(69), 0
        for office in [till(), one_way(), sided()] + [of_two(chance) for _ in range(25)]:
            gaps, day = some_gaps(chance, office.accounts), chance.randrange(office.days)
            days = chance.randint(1, 5)
            found = hold(office, gaps, day, days)
            for value in some_near(chance, found, 60):
                wanted = is_right(office, gaps, day, days, value)
                self.assertIs(shows_hold(office, gaps, day, days, value), wanted)
                right += wanted
            for other in (gaps * 2, -gaps, gaps + Gaps.lone("a"), Gaps()):
                wanted = is_right(office, other, day, days, found)
                self.assertIs(shows_hold(office, other, day, days, found), wanted)
            for other in range(1, 9):
                for start in range(office.days):
                    wanted = is_right(office, gaps, start, other, found)
                    self.assertIs(shows_hold(office, gaps, start, other, found), wanted)
        self.assertGreater(right, 10)

    def test_dearer_rows_and_other_looks(self):
        office, gaps = till(), Gaps({"a": 1})
        found = hold(office, gaps, 1, 2)
        dear = Row(office << 1, 2, [(0, "up", 1), (0, "down", 1), (1, "up", 1)])
        self.assertTrue(dear.passes(gaps))
        self.assertIs(shows_hold(office, gaps, 1, 2, Held(dear.weight, dear, found.looks)), False)
        self.assertIs(shows_hold(office, gaps, 1, 2, Held(Amount(1), dear, found.looks)), False)
        other = Row(office << 1, 2, [(0, "up", 1)])
        for row in (other, Row(office << 1, 2, [(1, "up", 1)])):
            wanted = row.passes(gaps)
            self.assertIs(shows_hold(office, gaps, 1, 2, Held(Amount(1), row, found.looks)), wanted)
        wrong = Held(Amount(1), Row(office, 2, [(1, "up", 1)]), found.looks)
        self.assertIs(shows_hold(office, gaps, 1, 2, wrong), False)

    def test_nothing_is_changed(self):
        office, gaps = till(), Gaps({"a": 1})
        found = hold(office, gaps, 1, 4)
        lines, looks = found.row.lines, found.looks
        shows_hold(office, gaps, 1, 4, found)
        office.drop("up")
        self.assertIs(shows_hold(till(), gaps, 1, 4, found), True)
        self.assertIs(shows_hold(office, gaps, 1, 4, found), False)
        self.assertTrue(found.row.lines == lines and found.looks is looks)


if __name__ == "__main__":
    unittest.main()
