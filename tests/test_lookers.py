"""The promises of the points [7], [8] and [9], and under holeshift/lookers.py."""

import itertools
import random
import unittest

from holeshift.amounts import Amount
from holeshift.gaps import Gaps
from holeshift.items import Count, Shift
from holeshift.lookers import Looker
from holeshift.prices import Answer, Blocked, Lasting, Limited, price
from holeshift.rows import Row
from holeshift.simplex import Tableau
from holeshift.weights import Weights
from tests.definitions import (
    amount, fraction, full, holds, is_plan, least, make, offices, one_way, one_way_back, paid, passes, ring, sided,
    some_offices,
)
from tests.helper import Case, any_values

HALF = Amount(1, 2)
RATES = [0, 1, 2, -1, 3, Amount(2), HALF, Amount(-7, 3), Amount(0), 10 ** 30]


def samples():
    return offices() + some_offices(21, 12)


def changed_numbers(pairs):
    """The tuples of pairs with one number otherwise."""
    for at, (key, number) in enumerate(pairs):
        for other in (number - HALF, -number):
            yield pairs[:at] + ((key, other),) + pairs[at + 1:]


def wrong_forms(pairs):
    """Values near a tuple of pairs, of which none has its form; nothing is near the empty one but longer ones."""
    yield from (list(pairs), dict(pairs), pairs + (("x", Amount(1)),), pairs + ((), ), None, iter(pairs))
    if pairs:
        yield from (pairs[:-1], pairs[1:], pairs + pairs[-1:], pairs[:1] + pairs, (list(pairs[0]),) + pairs[1:])
        key, number = pairs[0]
        for pair in (
            (key, 1), (key, True), (key, None), (key, str(number)), (key,), (key, number, number), (number, key),
            ("other", number), (None, number), key, None, ((key, number),), (key, (number,)), [key, number],
        ):
            yield (pair,) + pairs[1:]
        if isinstance(key, tuple):
            day, name = key
            for other in (
                [day, name], (bool(day), name), (Amount(day), name), (str(day), name), (name, day), (day,), day, name,
                (day, name, name), (day, None), (day + 1, name), (-1, name), (day, [name]),
            ):
                yield ((other, number),) + pairs[1:]
        else:
            yield from ((((0, key), number),) + pairs[1:], (([key], number),) + pairs[1:])
    if len(pairs) > 1:
        yield from (pairs[::-1], pairs[:1] * len(pairs), (pairs[1], pairs[0]) + pairs[2:])


class TestLooker(Case):
    def test_defined_here(self):
        self.assert_defines(Looker, ["__init__", "__call__", "lasts", "bears", "limits", "least"])
        self.assertEqual(Looker.__module__, "holeshift.lookers")

    def assert_looks(self, office, answer):
        """The looker and the definitions say the same of an answer whose parts have the right form."""
        looker = Looker(office)
        weights = answer.weights
        self.assertIs(looker.limits(weights), holds(office, weights, 1, 0))
        if not isinstance(answer, Lasting):
            zero = all(end == 0 for _, end in weights.ends)
            wanted = holds(office, weights, 1, 0) and (zero or type(answer) is Limited)
        else:
            plan = is_plan(office, answer.gaps, answer.row)
            self.assertIs(looker.lasts(answer.gaps, answer.row), plan)
            bears = holds(office, weights, answer.rate, 1)
            self.assertIs(looker.bears(weights, answer.rate), bears)
            wanted = plan and bears and fraction(answer.rate) == paid(office, answer.row)
        self.assertIs(looker(answer), wanted)
        return wanted

    def test_right_papers(self):
        found = set()
        for office in samples():
            answer = price(office)
            self.assertTrue(self.assert_looks(office, answer))
            found.add(type(answer))
            if type(answer) is Blocked:
                self.assertTrue(self.assert_looks(office, Limited(answer.weights)))
        self.assertEqual(found, {Lasting, Limited, Blocked})

    def test_another_number(self):
        right = 0
        for office in samples():
            answer = price(office)
            weights = answer.weights
            papers = [Weights(ends, weights.looks) for ends in changed_numbers(weights.ends)]
            papers += [Weights(weights.ends, looks) for looks in changed_numbers(weights.looks)]
            for other in papers:
                if type(answer) is Lasting:
                    right += self.assert_looks(office, Lasting(answer.rate, answer.gaps, answer.row, other))
                for kind in (Limited, Blocked):
                    right += self.assert_looks(office, kind(other))
        self.assertGreater(right, 10)

    def test_limited_that_is_not_blocked(self):
        weights = price(one_way()).weights
        self.assertIs(Looker(one_way())(Limited(weights)), True)
        self.assertIs(Looker(one_way())(Blocked(weights)), False)

    def test_another_plan(self):
        for office in samples():
            answer = price(office)
            if type(answer) is not Lasting:
                continue
            gaps, row, account = answer.gaps, answer.row, office.accounts[0]
            for other in (gaps + Gaps.lone(account), gaps * 2, Gaps(), -gaps, gaps + Gaps.lone(account, HALF)):
                self.assert_looks(office, Lasting(answer.rate, other, row, answer.weights))
            for day, kind in [(day, kind) for day in range(office.days) for kind in office.kinds_on(day)][:10]:
                other = row.twin()
                other[day, kind] = row[day, kind] + HALF
                self.assert_looks(office, Lasting(answer.rate, gaps, other, answer.weights))
                self.assert_looks(office, Lasting(other.weight, gaps, other, answer.weights))
                other.drop(day, kind)
                self.assert_looks(office, Lasting(answer.rate, gaps, other, answer.weights))
            for rate in (answer.rate + 1, answer.rate - HALF, -answer.rate, Amount(0)):
                self.assert_looks(office, Lasting(rate, gaps, row, answer.weights))

    def test_a_plan_that_pays_more(self):
        office = ring()
        answer = price(office)
        dear = answer.row.twin()
        dear[0, "up"], dear[0, "down"] = 2, 1
        looker = Looker(office)
        self.assertIs(looker.lasts(gaps=answer.gaps, row=dear), True)
        self.assertIs(looker(Lasting(dear.weight, answer.gaps, dear, answer.weights)), False)
        self.assertIs(looker(Lasting(answer.rate, answer.gaps, dear, answer.weights)), False)
        # Weights can bear less than the rate; then the answer is not right.
        less = Weights((("seea", Amount(0)), ("seeb", HALF)), (((0, "seea"), Amount(-1)), ((1, "seeb"), Amount(-1))))
        self.assertIs(looker.bears(less, 1), True)
        self.assertIs(looker(Lasting(Amount(2), answer.gaps, answer.row, less)), False)
        self.assertIs(looker(Lasting(Amount(1), answer.gaps, answer.row, less)), False)

    def test_no_plan(self):
        office = ring()
        looker, answer = Looker(office), price(office)
        more = ring()
        more["more"] = Shift({"a": -1, "b": 1})
        row = Row(more, 2, list(answer.row.shifts()))
        self.assertTrue(row.passes(answer.gaps))
        self.assertIs(looker.lasts(answer.gaps, row), False)
        self.assertIsNone(looker.least(answer.weights, answer.rate, answer.gaps, row))
        self.assertIs(looker.lasts(answer.gaps, answer.row * 2), False)
        self.assertIs(looker.lasts(answer.gaps, Row(office)), False)
        self.assertIs(looker.lasts(answer.gaps * 2, answer.row.scaled(2)), False)
        self.assertIs(looker.lasts(answer.gaps, answer.row), True)

    def test_wrong_forms(self):
        for office in (ring(), one_way(), one_way_back(), sided(), full()):
            looker, answer = Looker(office), price(office)
            weights = answer.weights
            rate = answer.rate if answer else 1
            for ends, looks in itertools.chain(
                ((ends, weights.looks) for ends in wrong_forms(weights.ends)),
                ((weights.ends, looks) for looks in wrong_forms(weights.looks)),
                ((weights.looks, weights.ends), (any_values(), None), (weights.ends, weights.ends)),
            ):
                wrong = Weights(ends, looks)
                self.assertIs(looker.bears(wrong, rate), False)
                self.assertIs(looker.limits(wrong), False)
                for other in (Limited(wrong), Blocked(wrong)):
                    self.assertIs(looker(other), False)
                if answer:
                    self.assertIs(looker(Lasting(rate, answer.gaps, answer.row, wrong)), False)
                    self.assertIsNone(looker.least(wrong, rate, answer.gaps, answer.row))

    def test_wrong_kinds(self):
        office = ring()
        looker, answer = Looker(office), price(office)
        gaps, row, weights = answer.gaps, answer.row, answer.weights
        other = make(2, "ab", {"up": Shift({"a": -1, "b": 1}), "x": Count("a", 0)})
        for wrong in (
            Lasting(2, gaps, row, weights), Lasting(True, gaps, row, weights), Lasting("2", gaps, row, weights),
            Lasting(answer.rate, {"a": 1}, row, weights), Lasting(answer.rate, "a 1", row, weights),
            Lasting(answer.rate, gaps, row.lines, weights), Lasting(answer.rate, gaps, row * 2, weights),
            Lasting(answer.rate, gaps, Row(office, 1), weights), Lasting(answer.rate, gaps, Row(other), weights),
            Lasting(answer.rate, gaps, Row(office << 1), weights), Lasting(answer.rate, gaps, row, (weights,)),
            Lasting(answer.rate, Gaps({"a": 1, "c": 0, "z": 1}), row, weights), Answer(weights), weights, answer.rate,
            Lasting(answer.rate, Gaps({"a": 1, "c": 1, "z": -1}), row, weights), [answer], (answer,), Limited(weights),
            Blocked(weights), Limited(answer), Lasting(answer, answer, answer, answer),
        ):
            self.assertIs(looker(wrong), False)
        self.assertIs(looker(answer), True)

    def test_any_values(self):
        office = ring()
        looker, answer = Looker(office), price(office)
        parts = [answer.rate, answer.gaps, answer.row, answer.weights]
        for value in any_values():
            self.assertIs(looker(value), False)
            self.assert_same([looker.limits(value), looker.bears(value, 2), looker.bears(value, value)], [False] * 3)
            self.assert_same([looker(Limited(value)), looker(Blocked(value)), looker(Answer(value))], [False] * 3)
            self.assertIs(looker.bears(answer.weights, value), Amount.is_number(value) and value == 2)
            self.assertIs(looker.lasts(value, answer.row), False)
            self.assertIs(looker.lasts(answer.gaps, value), False)
            self.assertIs(looker.lasts(value, value), False)
            for at in range(4):
                others = parts[:at] + [value] + parts[at + 1:]
                self.assertIs(looker(Lasting(*others)), False)
            self.assertIs(looker(Lasting(value, value, value, value)), False)
            ends, looks = answer.weights.ends, answer.weights.looks
            for wrong in (Weights(value, looks), Weights(ends, value), Weights(value, value)):
                self.assertIs(looker.limits(wrong), False)

    def test_bears_numbers_of_any_sign(self):
        for office in samples():
            found = price(office).weights
            nothing = [tuple((key, Amount(0)) for key in keys) for keys in (office.checks, office.looks)]
            zero = Weights(*nothing)
            turned = Weights(found.ends, tuple((key, -number) for key, number in found.looks))
            for weights in (found, zero, turned, Weights(zero.ends, found.looks), Weights(zero.ends, turned.looks)):
                for rate in RATES:
                    self.assertIs(Looker(office).bears(weights=weights, rate=rate), holds(office, weights, rate, 1))
        self.assertIs(Looker(ring()).bears(Weights((("seea", Amount(0)), ("seeb", Amount(0))), (
            ((0, "seea"), Amount(1)), ((1, "seeb"), Amount(1)),
        )), -1), True)

    def test_the_office_is_changed_later(self):
        office = ring()
        looker, answer = Looker(office=office), price(office)
        office.drop("up")
        self.assertIs(looker(answer=answer), True)
        self.assertIs(looker.limits(weights=price(office).weights), False)
        self.assertIs(looker.bears(price(ring()).weights, 2), True)
        office["seea"] = Count("b", 0)
        self.assertIs(looker.lasts(answer.gaps, answer.row), True)

    def test_nothing_is_changed_and_nothing_searched(self):
        office = sided()
        looker, answer = Looker(office), price(office)
        row, gaps, lines = answer.row, str(answer.gaps), answer.row.lines
        pivot = Tableau.pivot
        Tableau.pivot = None
        try:
            self.assertIs(looker(answer), True)
            looker.least(answer.weights, answer.rate, answer.gaps, row * 3, [(0, "a", 1)])
        finally:
            Tableau.pivot = pivot
        self.assert_same([row.lines, str(answer.gaps)], [lines, gaps])
        self.assertTrue(row.twin_office() == office == sided())


class TestLeast(Case):
    def assert_least(self, office, weights, rate, gaps, row, thefts=()):
        """The looker tells what the definitions tell, or None; an amount is at most what the row pays."""
        found = Looker(office).least(weights, rate, gaps, row, thefts)
        if holds(office, weights, rate, 1) and passes(office, gaps, row, thefts):
            self.assert_same(found, amount(least(office, weights, rate, gaps, row, thefts)))
            self.assertLessEqual(fraction(found), paid(office, row))
        else:
            self.assertIsNone(found)
        return found

    def test_of_a_plan(self):
        for office in samples():
            answer = price(office)
            if type(answer) is Lasting:
                rate = answer.rate
                for count in (1, 2, 40 // office.days):
                    row = answer.row * count
                    # A plan made again and again pays just what it must.
                    found = self.assert_least(office, answer.weights, rate, answer.gaps, row)
                    self.assert_same(found, rate * count)
                    three = self.assert_least(office, answer.weights, rate, answer.gaps * 3, row.scaled(3))
                    self.assert_same(three, found * 3)
                    self.assert_least(office, answer.weights, rate + 1, answer.gaps, row)
                    self.assert_least(office, answer.weights, rate, answer.gaps + Gaps.lone(office.accounts[0]), row)

    def passing(self, chance, days):
        """Gaps, a row of the ring with this many days that passes, and thefts, by chance."""
        office = ring()
        row, thefts, first = Row(office, days), [], chance.choice([0, 1, HALF, 7])
        now = {"a": Amount.of(first), "b": Amount(0)}
        gaps = Gaps({"a": first})
        for day in range(days):
            left, other, kind = ("a", "b", "up") if day % 2 == 0 else ("b", "a", "down")
            for account in "ab":
                if chance.random() < 0.4:
                    number = chance.choice([1, HALF, Amount(7, 3), 10 ** 30])
                    thefts.append((day, account, number))
                    now[account] = now[account] + number
            more = chance.choice([0, 0, 1, HALF])
            row[day, kind] = now[left] + more
            row[day, "down" if kind == "up" else "up"] = more
            now = {left: Amount(0), other: now[left] + now[other]}
        chance.shuffle(thefts)
        return office, gaps, row, thefts

    def test_thefts(self):
        chance = random.Random(5)
        ends, looks = (("seea", Amount(1)), ("seeb", Amount(1))), (((0, "seea"), HALF), ((1, "seeb"), HALF))
        bearing = [(price(ring()).weights, 2), (Weights(ends, looks), -HALF)]
        for days in list(range(1, 8)) * 5 + [39, 40]:
            office, gaps, row, thefts = self.passing(chance, days)
            self.assertTrue(passes(office, gaps, row, thefts))
            for weights, rate in bearing:
                found = self.assert_least(office, weights, rate, gaps, row, thefts)
                self.assertIsNotNone(found)
                self.assert_same(self.assert_least(office, weights, rate, gaps, row, tuple(thefts)), found)
                if thefts:
                    self.assert_least(office, weights, rate, gaps, row, thefts[1:])
                    self.assert_least(office, weights, rate, gaps, row, thefts + thefts[:1])
                    self.assert_least(office, weights, rate, gaps, row)

    def test_two_thefts_on_one_day(self):
        office = ring()
        weights = price(office).weights
        row = Row(office, 2, [(0, "up", 3), (1, "down", 3)])
        thefts = [(0, "a", 1), (0, "a", Amount(2))]
        self.assert_same(
            self.assert_least(office, weights, 2, Gaps(), row, thefts),
            self.assert_least(office, weights, Amount(2), Gaps(), row, [(0, "a", 3)]),
        )

    def test_wrong_thefts(self):
        office, row = ring(), Row(ring(), 2, [(0, "up", 1), (1, "down", 1)])
        weights, looker = price(office).weights, Looker(office)
        self.assertIsNotNone(looker.least(weights=weights, rate=2, gaps=Gaps(), row=row, thefts=[(0, "a", 1)]))
        # On day 1 nothing is looked at in a behind the shifts, so that each of these would pass but for its form.
        wrong = [(0, "a", 1)]
        for theft in any_values() + [
            (2, "a", 1), (-1, "a", 1), (True, "a", 1), (Amount(1), "a", 1), (1, "c", 1), (1, "up", 1), (1, None, 1),
            (1, ["a"], 1), (1, "a", 0), (1, "a", -1), (1, "a", Amount(0)), (1, "a", Amount(-1, 2)), (1, "a", True),
            (1, "a", "1"), (1, "a", None), (1, "a"), (1, "a", 1, 1), [1, "a", 1], ("a", 1, 1), (None, "a", 1),
            (10 ** 60, "a", 1),
        ]:
            self.assertIsNone(looker.least(weights, 2, Gaps(), row, wrong + [theft]))
            self.assertIsNone(looker.least(weights, 2, Gaps(), row, (theft, *wrong)))
        self.assertIsNotNone(looker.least(weights, 2, Gaps(), row, wrong + [(1, "a", 1)]))
        for value in any_values() + [{(0, "a", 1): 1}, "", None, 0, Gaps()]:
            if value not in ([], ()):
                self.assertIsNone(looker.least(weights, 2, Gaps(), row, value))

    def test_wrong_values(self):
        office = ring()
        looker, answer = Looker(office), price(office)
        parts = [answer.weights, answer.rate, answer.gaps, answer.row]
        self.assert_same(looker.least(*parts), Amount(2))
        self.assert_same(looker.least(answer.weights, 2, answer.gaps, answer.row, []), Amount(2))
        for value in any_values():
            for at in range(4):
                others = parts[:at] + [value] + parts[at + 1:]
                if at != 1 or not Amount.is_number(value) or value != 2:
                    self.assertIsNone(looker.least(*others))
            self.assertIsNone(looker.least(value, value, value, value, value))
        for gaps, row in (
            (Gaps({"a": 1, "c": 1}), answer.row), (answer.gaps, Row(ring() << 1)), (answer.gaps, Row(one_way())),
            (Gaps({"b": 1}), answer.row), (answer.gaps, Row(office)),
        ):
            self.assertIsNone(looker.least(answer.weights, answer.rate, gaps, row))

    def test_weights_that_limit(self):
        # With weights of a Limited the same sum, with P 1, is at most 0; they bear no more than is paid, too.
        for office, kind in ((one_way(), "down"), (one_way_back(), "up")):
            weights = price(office).weights
            self.assert_least(office, weights, 1, Gaps({"b": 1}), Row(office, 2, [(1, kind, 1)]))
            self.assert_least(office, weights, 1, Gaps({"b": 1}), Row(office, 1))
            self.assert_least(office, weights, 1, Gaps(), Row(office, 40))


if __name__ == "__main__":
    unittest.main()
