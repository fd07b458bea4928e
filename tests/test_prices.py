"""The promises of the points [7], [8], [9], [10] and [11], and under holeshift/prices.py."""

import random
import time
import unittest

from holeshift.amounts import Amount
from holeshift.errors import BadAmount
from holeshift.gaps import Gaps
from holeshift.items import Count, Match, Shift, Total
from holeshift.lookers import Looker
from holeshift.offices import Office
from holeshift.prices import Answer, Blocked, Lasting, Limited, price
from holeshift.rows import Row
from holeshift.simplex import least_costs
from holeshift.weights import Weights
from tests.definitions import (
    fraction, full, has_blind_place, holds, is_plan, make, offices, one_way, one_way_back, paid, ring, sided,
    some_offices,
)
from tests.helper import Case, any_values

MANY = 120


def figures(number):
    return max(len(str(abs(number.top))), len(str(number.bottom)))


class TestPapers(Case):
    def test_defined_here(self):
        for owner in (Answer, Lasting, Limited, Blocked):
            self.assert_defines(owner, ["__init__", "__bool__", "__eq__"])
            self.assertEqual(owner.__module__, "holeshift.prices")
        self.assert_defines(Limited, ["most_rounds"])
        self.assertEqual([Lasting.__bases__, Limited.__bases__, Blocked.__bases__], [(Answer,), (Answer,), (Limited,)])
        self.assertEqual(price.__module__, "holeshift.prices")

    def test_keep_any_values(self):
        for value in any_values():
            for owner in (Answer, Limited, Blocked):
                self.assertIs(owner(value).weights, value)
                self.assertIs(owner(weights=value).weights, value)
                self.assertIs(bool(owner(value)), False)
            lasting = Lasting(value, 1, [value], None)
            self.assertIs(lasting.rate, value)
            self.assert_same([lasting.gaps, lasting.weights, bool(lasting)], [1, None, True])
            self.assertIs(lasting.row[0], value)
        lasting = Lasting(weights=4, row=3, gaps=2, rate=1)
        self.assert_same([lasting.rate, lasting.gaps, lasting.row, lasting.weights], [1, 2, 3, 4])

    def test_equals(self):
        papers = [
            Answer(1), Answer(2), Limited(1), Limited(2), Limited([1]), Blocked(1), Blocked(2), Lasting(1, 1, 1, 1),
            Lasting(2, 1, 1, 1), Lasting(1, 2, 1, 1), Lasting(1, 1, 2, 1), Lasting(1, 1, 1, 2), Limited(Weights(1, 2)),
            Blocked(Weights(1, 2)), Limited(Weights(2, 2)), Lasting(Amount(1, 2), Gaps(), Row(ring()), Weights((), ())),
            Lasting(Amount(1, 2), Gaps(), Row(ring(), 1), Weights((), ())), Limited(None), Blocked(None),
        ]
        self.assert_alike_themselves_alone(papers)
        for work in (
            lambda: Answer((1,)), lambda: Limited((1,)), lambda: Blocked((1,)), lambda: Lasting(1, (2,), [], ""),
        ):
            self.assertTrue(work() == work())

    def test_most_rounds(self):
        ends = (("x", Amount(1, 3)), ("y", Amount(-3, 2)), ("z", Amount(0)))
        for owner in (Limited, Blocked):
            for looks in ((), None, (((0, "x"), Amount(5)),)):
                limited = owner(Weights(ends, looks))
                for bound, wanted in (
                    (0, 0), (1, 3), (2, 7), (3, 11), (Amount(1, 2), 1), (Amount(3, 11), 1), (Amount(3, 12), 0),
                    (Amount(0), 0), (10 ** 30 - 1, (10 ** 30 - 1) * 11 // 3), (Amount(1, 10 ** 30 - 1), 0),
                ):
                    self.assert_same(limited.most_rounds(bound), wanted)
        self.assert_same(Limited(Weights((), ())).most_rounds(bound=7), 0)
        for value in any_values() + [-1, Amount(-1, 9)]:
            if not Amount.is_number(value) or value < 0:
                error = self.assert_raises(BadAmount(value), Limited(Weights(ends, ())).most_rounds, value)
                self.assertIs(error.value, value)


class TestPrice(Case):
    def assert_answer(self, office):
        """The answer for an office is right by the definitions and for a Looker, and the same again."""
        kept = office.twin()
        found = price(office)
        self.assertTrue(office == kept)
        weights = found.weights
        self.assert_same([name for name, _ in weights.ends], list(office.checks))
        self.assert_same([look for look, _ in weights.looks], list(office.looks))
        self.assertIs(type(weights.ends) is type(weights.looks) is tuple, True)
        numbers = [number for _, number in weights.ends + weights.looks]
        if type(found) is Lasting:
            self.assertTrue(is_plan(office, found.gaps, found.row) and holds(office, weights, found.rate, 1))
            self.assertEqual(fraction(found.rate), paid(office, found.row))
            self.assertTrue(found.row.twin_office() == office and set(found.gaps.accounts) <= set(office.accounts))
            numbers += [found.rate, *[found.gaps[account] for account in found.gaps.accounts]]
            numbers += [number for _, _, number in found.row.shifts()]
        else:
            self.assertIn(type(found), (Limited, Blocked))
            self.assertTrue(holds(office, weights, 1, 0))
            if type(found) is Blocked:
                self.assertTrue(all(end == 0 for _, end in weights.ends))
        for number in numbers:
            self.assertIs(type(number), Amount)
            self.assertLessEqual(figures(number), 100)
        self.assertIs(Looker(office)(found), True)
        self.assertTrue(price(kept) == found)
        return found

    def test_answers(self):
        for office in offices() + some_offices(1, MANY):
            self.assert_answer(office)

    def test_found_answers(self):
        for office, kind, rate in (
            (Office(1, "a"), Lasting, 0), (make(1, "a", {"x": Count("a", 0)}), Blocked, None), (ring(), Lasting, 2),
            (one_way(), Limited, None), (one_way_back(), Blocked, None), (ring() * 2, Lasting, 4),
            (ring() << 1, Lasting, 2), (make(1, "ab", {"x": Total(["a", "b"], 0)}), Blocked, None),
            (ring().with_looks((1, "seea")), Blocked, None), (make(1, "ab", {"x": Match(["a"], ["b"], 0)}), Lasting, 0),
            (make(1, "ab", {"x": Count("a", 0)}), Lasting, 0),
        ):
            found = price(office=office)
            self.assertIs(type(found), kind)
            if rate is not None:
                self.assert_same(found.rate, Amount(rate))

    def test_fractions(self):
        office = make(2, "ab", {
            "up": Shift({"a": -3, "b": 3}, weight=2), "down": Shift({"a": 7, "b": -7}, weight=5), "x": Count("a", 0),
            "y": Count("b", 1),
        })
        self.assert_same(price(office).rate, Amount(2, 3) + Amount(5, 7))

    def test_same_answer_for_an_equal_office(self):
        for office in offices() + some_offices(2, 20):
            other = Office(office.days, *reversed(office.accounts))
            for name in reversed(office.names):
                other[name] = office[name]
            self.assertTrue(price(other) == price(office))

    def test_all_sorts_are_found(self):
        found = {type(price(office)) for office in some_offices(1, MANY)}
        self.assertEqual(found, {Lasting, Limited, Blocked})

    def test_office_is_changed_later(self):
        office = ring()
        found = price(office)
        office.drop("up")
        self.assertTrue(found.row.twin_office() == ring() and found == price(ring()))

    def test_bearable_time(self):
        start = time.monotonic()
        for office in (full(), full() << 2, full().renamed({"a": "z"})):
            self.assert_answer(office)
        for work in some_offices(3, 30):
            price(work)
        self.assertLess(time.monotonic() - start, 60)


def rate_of(office):
    """The rate, or None for a limited office."""
    found = price(office)
    return found.rate if found else None


def is_at_most(one, other):
    return other is None or one is not None and one <= other


class TestFacts(Case):
    def test_rate_0(self):
        for office in offices() + some_offices(4, MANY):
            self.assertIs(rate_of(office) == 0, has_blind_place(office))

    def test_kinds_taken_away(self):
        for office in [ring(), sided(), full()] + some_offices(5, 25):
            rate = rate_of(office)
            for name in office.kinds:
                less = office.twin()
                less.drop(name)
                self.assertTrue(is_at_most(rate, rate_of(less)))

    def test_more_looks(self):
        for office in [one_way(), ring(), sided()] + some_offices(6, 25):
            rate = rate_of(office)
            for look in [(day, name) for day in range(office.days) for name in office.checks]:
                self.assertTrue(is_at_most(rate, rate_of(office.with_looks(look))))

    def test_begun_later(self):
        for office in [ring(), sided(), full(), one_way()] + some_offices(7, 25):
            for k in (1, 2, -1, 7):
                self.assert_same(rate_of(office << k), rate_of(office))

    def test_told_several_times(self):
        for office in [ring(), one_way(), one_way_back()] + [one for one in some_offices(8, 60) if one.days < 3]:
            for k in range(1, 5 // office.days + 1):
                if len(office.looks) * k <= 12:
                    rate = rate_of(office)
                    self.assert_same(rate_of(office * k), None if rate is None else rate * k)

    def test_renamed(self):
        for office in [ring(), sided(), one_way()] + some_offices(9, 25):
            self.assert_same(rate_of(office.renamed({"a": "z", "b": "a"})), rate_of(office))

    def test_without_kinds(self):
        for office in offices() + some_offices(10, 25):
            for name in office.kinds:
                office.drop(name)
            found = price(office)
            self.assertTrue(type(found) is Blocked or found.rate == 0)

    def test_a_limited_row(self):
        # The row passes one round with a hole of 1, and its checks see 0 and 1 at its ends.
        found, row = price(one_way()), Row(one_way(), 2, [(1, "down", 1)])
        self.assertTrue(row.passes(Gaps({"b": 1})))
        self.assertGreaterEqual(found.most_rounds(1), 1)
        self.assertGreaterEqual(2 * found.most_rounds(Amount(1, 2)), 1)

    def test_a_plan_is_made_again_and_again(self):
        for office in offices() + some_offices(11, 25):
            found = price(office)
            if found:
                for number in (1, 3, Amount(1, 7), 10 ** 30 - 1):
                    row = found.row.scaled(number) * (40 // office.days)
                    self.assertTrue(row.passes(found.gaps * number))
                    self.assert_same(row.weight, found.rate * number * (40 // office.days))


class TestLeastCosts(Case):
    def test_small_ones(self):
        for rows, right, costs, values in (
            ([[1, 1]], [3], [2, 1], [0, 3]), ([[1, 1], [1, -1]], [3, 1], [1, 1], [2, 1]),
            ([[-1, -2]], [-3], [1, 1], [0, Amount(3, 2)]),
            ([[-1, -1, 0], [1, 0, 1]], [0, 1], [1, 1, 5], [0, 0, 1]), ([[1, 1], [2, 2]], [3, 6], [1, 0], [0, 3]),
            ([[1, -1]], [0], [1, 1], [0, 0]), ([], [], [1], [0]),
        ):
            found, multipliers = least_costs(rows, right, costs)
            self.assert_same(found, [Amount.of(value) for value in values])
            self.assert_bound(rows, right, costs, multipliers, sum(c * v for c, v in zip(costs, values)))

    def assert_bound(self, rows, right, costs, multipliers, wanted):
        for column, cost in enumerate(costs):
            self.assertTrue(Amount.total([m * row[column] for m, row in zip(multipliers, rows)]) <= cost)
        self.assert_same(Amount.total([m * number for m, number in zip(multipliers, right)]), Amount.of(wanted))

    def test_by_chance(self):
        chance, solved = random.Random(3), 0
        for _ in range(300):
            wide = chance.randint(1, 6)
            rows = [[chance.randint(-3, 3) for _ in range(wide)] for _ in range(chance.randint(1, 5))]
            right, costs = [chance.randint(-4, 4) for _ in rows], [chance.randint(0, 9) for _ in range(wide)]
            found, multipliers = least_costs(rows, right, costs)
            if found is None:
                self.assert_bound(rows, right, [0] * wide, multipliers, 1)
                continue
            solved += 1
            self.assertTrue(all(value >= 0 for value in found))
            for row, number in zip(rows, right):
                self.assert_same(Amount.total([part * value for part, value in zip(row, found)]), Amount(number))
            total = Amount.total([cost * value for cost, value in zip(costs, found)])
            self.assert_bound(rows, right, costs, multipliers, total)
        self.assertGreater(solved, 50)

    def test_no_solution(self):
        for rows, right in (([[1, 1]], [-1]), ([[1, 1], [1, 1]], [1, 2]), ([[1], [1]], [2, 3]), ([[0, 0]], [5])):
            found, multipliers = least_costs(rows, right, [1 for _ in rows[0]])
            self.assertIsNone(found)
            self.assert_bound(rows, right, [0 for _ in rows[0]], multipliers, 1)


if __name__ == "__main__":
    unittest.main()
