"""The promises of the points [7], [9] and [11], and under holeshift/hands.py."""

import itertools
import random
import time
import unittest
from fractions import Fraction

from holeshift.amounts import Amount
from holeshift.choices import least_sets, subsets
from holeshift.errors import BadBound, TooMany
from holeshift.hands import Band, Guard, Party, bands, cheapest_guard, guards, shows_band, shows_guard
from holeshift.items import Count, Match, Shift, Total
from holeshift.offices import Office
from holeshift.prices import Blocked, Lasting, Limited, price
from holeshift.rows import Row
from holeshift.weights import Weights
from tests.definitions import (
    amount, fraction, full, is_least_set, one_way, rate_of_two, ring, shows_none, shows_plan, sided, some_offices,
)
from tests.helper import Case, any_values, same
from tests.variants import some_near

HANDS = ["amy", "bob", "eve", "zoe"]
WRONG_BOUNDS = [value for value in any_values() if value is not None and not (Amount.is_number(value) and value >= 0)]


def of_two(chance):
    """An office of two accounts with the kinds of none to four hands."""
    days = chance.randint(1, 4)
    office = Office(days, "a", "b")
    for at, hand in enumerate(HANDS[:chance.randint(0, 4)]):
        for letter in "xy"[:chance.randint(1, 2)]:
            size, sign = chance.choice([1, 1, 2, 3, 9]), chance.choice([1, -1])
            on = chance.sample(range(days), chance.randint(1, days)) if chance.random() < 0.4 else []
            weight = chance.choice([1, 2, 5, 7, 100])
            changes = {"a": size * sign, "b": -size * sign}
            office[letter + "k" + "abcd"[at]] = Shift(changes, *on, weight=weight, hand=hand)
    for name, check in (
        ("seea", Count("a", chance.randrange(days))), ("seeb", Count("b", chance.randrange(days))),
        ("match", Match(["b"], ["a"], chance.randrange(days))), ("total", Total(["a", "b"], chance.randrange(days))),
    ):
        if chance.random() < {"match": 0.3, "total": 0.05}.get(name, 0.85):
            office[name] = check
    return office


def is_below(rate, bound):
    return rate is not None and (bound is None or rate < fraction(bound))


def subsets_of(parts):
    """All sets, by their numbers of parts, then as tuples."""
    return [some for many in range(len(parts) + 1) for some in itertools.combinations(sorted(parts), many)]


def least_of(parts, is_wanted):
    """The least sets that are wanted, by asking for each set."""
    wanted = [some for some in subsets_of(parts) if is_wanted(some)]
    return [some for some in wanted if not any(set(other) < set(some) for other in wanted)]


def bounds_near(rates):
    """None, 0, and bounds at, below and above each rate."""
    found = [None, 0, Amount(0), Amount(1, 3), 10 ** 29]
    for rate in rates:
        if rate is not None:
            found += [amount(rate), amount(rate + Fraction(1, 7)), amount(rate * Fraction(99, 100))]
            found += [int(rate)]
    return found


class PartyCase(Case):
    def office_of(self, office, owner, hands):
        return office.with_hands(*hands) if owner is Band else office.without_hands(*hands)

    def is_right(self, office, owner, value, bound):
        """Whether any value is a Band or a Guard as told, added up anew, clause by clause."""
        shows = [shows_plan, shows_none] if owner is Band else [shows_none, shows_plan]
        return type(value) is owner and is_least_set(
            value.hands, office.hands, value, lambda hands: self.office_of(office, owner, hands), shows, bound,
        )

    def assert_parties(self, office, bound, rate_of=None):
        """Bands and guards are the least sets by the price of each set, have right answers, and meet each other."""
        rate_of = rate_of or (lambda one: fraction(price(one).rate) if price(one) else None)
        rates = {some: rate_of(office.with_hands(*some)) for some in subsets_of(office.hands)}
        kept = office.twin()
        told = bands(office, bound=bound)
        wanted = least_of(office.hands, lambda some: is_below(rates[some], bound))
        self.assertEqual([band.hands for band in told], wanted)
        rest = {some: tuple(hand for hand in office.hands if hand not in some) for some in rates}
        other = guards(office=office, bound=bound)
        wanted = least_of(office.hands, lambda some: not is_below(rates[rest[some]], bound))
        self.assertEqual([guard.hands for guard in other], wanted)
        for party in told + other:
            self.assert_party(office, party, bound)
        for band in told:
            self.assertTrue(all(set(guard.hands) & set(band.hands) for guard in other))
        meeting = least_of(office.hands, lambda some: all(set(some) & set(band.hands) for band in told))
        self.assertEqual([guard.hands for guard in other], meeting)
        meeting = least_of(office.hands, lambda some: all(set(some) & set(guard.hands) for guard in other))
        self.assertEqual([band.hands for band in told], meeting)
        self.assertTrue(office == kept)
        return told, other

    def assert_party(self, office, party, bound):
        """The answers of a party are those of price, and show what they must."""
        owner, hands = type(party), party.hands
        self.assertTrue(party.answer == price(self.office_of(office, owner, hands)))
        less = tuple(price(self.office_of(office, owner, hands[:at] + hands[at + 1:])) for at in range(len(hands)))
        self.assert_same(party.less, less)
        self.assertTrue(self.is_right(office, owner, party, bound))
        shows, other = (shows_band, shows_guard) if owner is Band else (shows_guard, shows_band)
        self.assertIs(shows(office, party, bound=bound), True)
        self.assertIs(other(office, party, bound=bound), False)


class TestPapers(Case):
    def test_defined_here(self):
        for owner in (Party, Band, Guard):
            self.assert_defines(owner, ["__init__", "__eq__", "__len__", "__contains__"])
        for told in (Party, Band, Guard, bands, guards, cheapest_guard, shows_band, shows_guard):
            self.assertEqual(told.__module__, "holeshift.hands")
        self.assertEqual([Band.__bases__, Guard.__bases__], [(Party,), (Party,)])

    def test_keep_any_values(self):
        for value in any_values():
            for owner in (Band, Guard):
                for paper in (owner(value, [value], None), owner(less=None, answer=[value], hands=value)):
                    self.assertIs(paper.hands, value)
                    self.assertIs(paper.answer[0], value)
                    self.assertIsNone(paper.less)
                self.assertIs(owner(1, value, 2).answer, value)
                self.assertIs(owner(1, 2, value).less, value)

    def test_len_and_in(self):
        for owner in (Band, Guard):
            for hands in ((), ("bob",), ("bob", "eve"), tuple(HANDS)):
                party = owner(hands, None, ())
                self.assert_same(len(party), len(hands))
                for value in any_values() + HANDS + ["bo", "bobeve", ("bob",), ["bob"]]:
                    self.assertIs(value in party, type(value) is str and value in hands)

    def test_equals(self):
        answers = [price(ring()), price(one_way())]
        told = [(("a",), answers[0], ()), (("b",), answers[0], ()), (("a",), answers[1], ()),
                (("a",), answers[0], (answers[1],)), ((), None, None)]
        papers = [owner(*fields) for owner in (Band, Guard, Party) for fields in told]
        self.assert_alike_themselves_alone(papers)
        self.assertTrue(Band(("a",), price(ring()), ()) == Band(("a",), answers[0], ()))


class TestParties(PartyCase):
    def test_rates_of_two_accounts(self):
        # The test reckons the rates of these offices by itself.
        self.assertEqual(rate_of_two(ring()), 2)
        self.assertEqual([rate_of_two(one_way()), rate_of_two(Office(1, "a", "b"))], [None, 0])
        chance = random.Random(41)
        for _ in range(150):
            office = of_two(chance)
            found = price(office)
            self.assertEqual(fraction(found.rate) if found else None, rate_of_two(office))

    def test_offices_of_two_accounts(self):
        chance, many = random.Random(42), set()
        for _ in range(45):
            office = of_two(chance)
            rates = sorted({rate_of_two(office.with_hands(*some)) for some in subsets_of(office.hands)} - {None})
            for bound in chance.sample(bounds_near(rates), 5) + [None]:
                told, other = self.assert_parties(office, bound, rate_of_two)
                many.add((len(told), len(other)))
        # No band and the empty guard, the empty band and no guard, and several of both were met.
        self.assertTrue({(0, 1), (1, 0), (1, 1), (1, 2)} < many)
        self.assertTrue(max(told for told, _ in many) > 1 and max(other for _, other in many) > 1)

    def test_other_offices(self):
        for office in [sided(), ring() << 1] + some_offices(43, 25):
            rates = sorted({price(office.with_hands(*some)).rate.top for some in subsets_of(office.hands)
                            if price(office.with_hands(*some))})
            for bound in [None, 0] + rates[:1]:
                self.assert_parties(office, bound)

    def test_found(self):
        crew = ring()
        crew["rise"] = Shift({"a": -1, "b": 1}, weight=5, hand="zoe")
        for bound, band, guard in (
            (None, [("bob", "eve"), ("eve", "zoe")], [("eve",), ("bob", "zoe")]),
            (7, [("bob", "eve"), ("eve", "zoe")], [("eve",), ("bob", "zoe")]),
            (6, [("bob", "eve")], [("bob",), ("eve",)]), (Amount(13, 2), [("bob", "eve"), ("eve", "zoe")], None),
            (Amount(21, 10), [("bob", "eve")], [("bob",), ("eve",)]), (2, [], [()]), (0, [], [()]),
        ):
            self.assertEqual([party.hands for party in bands(crew, bound=bound)], band)
            if guard is not None:
                self.assertEqual([party.hands for party in guards(crew, bound=bound)], guard)
        blind = crew.twin()
        blind.drop("seeb")
        self.assertEqual([party.hands for party in bands(blind)], [()])
        self.assertEqual([bands(blind)[0].less, guards(blind), len(bands(blind, bound=0))], [(), [], 0])
        self.assertEqual([party.hands for party in guards(blind, bound=0)], [()])
        # A hand with kinds that are of no use is in no set.
        crew["idle"] = Shift({"a": -1, "b": 1}, weight=100, hand="amy")
        self.assertNotIn("amy", [hand for party in bands(crew, bound=7) for hand in party.hands])

    def test_cheapest_guard(self):
        chance = random.Random(44)
        for _ in range(40):
            office = of_two(chance)
            costs = {hand: chance.choice([0, 1, 2, 3, 1000]) for hand in office.hands}
            kept = dict(costs)
            for bound in (None, chance.choice([0, 1, 5, Amount(7, 2)])):
                found = cheapest_guard(office, costs, bound=bound)
                told = guards(office, bound=bound)
                if not told:
                    self.assertIsNone(found)
                    continue
                sums = [sum(costs[hand] for hand in guard.hands) for guard in told]
                self.assertTrue(found == told[sums.index(min(sums))])
            self.assertEqual(costs, kept)
        crew = ring()
        crew["rise"] = Shift({"a": -1, "b": 1}, weight=5, hand="zoe")
        for costs, hands in (
            ({"bob": 1, "eve": 4, "zoe": 2}, ("bob", "zoe")), ({"bob": 1, "eve": 3, "zoe": 2}, ("eve",)),
            ({"bob": 0, "eve": 0, "zoe": 0}, ("eve",)), ({"bob": 1, "eve": 1000, "zoe": 998}, ("bob", "zoe")),
        ):
            self.assertEqual(cheapest_guard(office=crew, costs=costs).hands, hands)
        self.assertEqual(cheapest_guard(crew, {"bob": 1, "eve": 4, "zoe": 2}, bound=6).hands, ("bob",))
        self.assertEqual(cheapest_guard(one_way(), {"eve": 5}).hands, ())

    def test_bearable_time(self):
        office = full()
        for at, name in enumerate(office.kinds):
            kind = office[name]
            office[name] = Shift(kind.changes, *kind.days, weight=kind.weight, hand=HANDS[at % 4])
        start = time.monotonic()
        self.assert_parties(office, None)
        self.assert_parties(office, 60)
        self.assertLess(time.monotonic() - start, 60)


class TestWrongInputs(PartyCase):
    def five_hands(self):
        office = ring()
        for at, letter in enumerate("vwxyz"):
            office["k" + letter] = Shift({"a": 1, "b": -1}, hand="h" + letter)
        return office.without_hands("bob", "eve")

    def test_bounds(self):
        office, five = ring(), self.five_hands()
        band, guard = bands(office)[0], guards(office)[0]
        for value in WRONG_BOUNDS + [-1, Amount(-1, 9), True, "1", 1.5]:
            for work in (
                lambda: bands(office, bound=value), lambda: guards(office, bound=value),
                lambda: cheapest_guard(office, {"bob": 1, "eve": 1}, bound=value), lambda: bands(five, bound=value),
                lambda: guards(five, bound=value), lambda: cheapest_guard(five, {}, bound=value),
                lambda: shows_band(office, band, bound=value), lambda: shows_guard(office, guard, bound=value),
                lambda: shows_band(five, None, bound=value), lambda: shows_guard(five, value, bound=value),
            ):
                error = self.assert_raises(BadBound(value), work)
                self.assertIs(error.value, value)
        for bound in (0, Amount(0), 10 ** 29, Amount(10 ** 29, 3), None):
            bands(office, bound=bound)

    def test_bound_by_name_alone(self):
        office = ring()
        for work in (bands, guards, lambda one, bound: cheapest_guard(one, {"bob": 1, "eve": 1}, bound)):
            with self.assertRaises(TypeError):
                work(office, 3)

    def test_five_hands(self):
        five = self.five_hands()
        costs = {hand: 1 for hand in five.hands}
        self.assertEqual(len(five.hands), 5)
        for bound in (None, 0, 3):
            for work in (
                lambda: bands(five, bound=bound), lambda: guards(five, bound=bound),
                lambda: cheapest_guard(five, costs, bound=bound),
            ):
                self.assert_raises(TooMany("hands", 4), work)
        four = five.without_hands("hv")
        self.assertEqual([guard.hands for guard in guards(four)], [()])
        # What only looks, looks at papers of more hands, too.
        answer, none = price(five), price(five.with_hands())
        self.assertIs(shows_guard(five, Guard((), answer, ())), True)
        self.assertIs(shows_band(five, Band((), none, ())), False)
        six = five.twin()
        six["up"] = Shift({"a": -1, "b": 1}, hand="bob")
        found = Band(("bob", "hw"), price(six.with_hands("bob", "hw")), (
            price(six.with_hands("hw")), price(six.with_hands("bob")),
        ))
        self.assertIs(shows_band(six, found), True)
        self.assertTrue(self.is_right(six, Band, found, None))

    def test_any_values(self):
        office = ring()
        band, guard = bands(office)[0], guards(office)[0]
        for value in any_values():
            self.assert_same([shows_band(office, value), shows_guard(office, value)], [False, False])
            for owner, paper, shows in ((Band, band, shows_band), (Guard, guard, shows_guard)):
                for wrong in (
                    owner(value, paper.answer, paper.less), owner(paper.hands, value, paper.less),
                    owner(paper.hands, paper.answer, value), owner(value, value, value), Party(paper.hands, 1, value),
                    owner(paper.hands, paper.answer, (value,) * len(paper.hands)), owner((value,), value, (value,)),
                    owner(paper.hands, Lasting(value, value, value, value), paper.less),
                    owner(paper.hands, Limited(value), paper.less), owner(paper.hands, Blocked(value), paper.less),
                ):
                    self.assertIs(shows(office, wrong), False)
                    self.assertIs(shows(office, wrong, bound=3), False)

    def test_hands_in_another_order(self):
        crew = ring()
        crew["rise"] = Shift({"a": -1, "b": 1}, weight=5, hand="zoe")
        band, guard = bands(crew)[0], guards(crew)[1]
        self.assertEqual([band.hands, guard.hands], [("bob", "eve"), ("bob", "zoe")])
        for party, shows in ((band, shows_band), (guard, shows_guard)):
            turned = type(party)(party.hands[::-1], party.answer, party.less[::-1])
            self.assert_same([shows(crew, party), shows(crew, turned)], [True, False])

    def test_papers_near(self):
        chance, right = random.Random(45), 0
        for office in [ring(), sided()] + [of_two(chance) for _ in range(12)]:
            for bound in (None, 3, Amount(17, 2)):
                for party in bands(office, bound=bound) + guards(office, bound=bound):
                    owner, shows = type(party), shows_band if type(party) is Band else shows_guard
                    for value in some_near(chance, party, 40):
                        wanted = self.is_right(office, owner, value, bound)
                        self.assertIs(shows(office, value, bound=bound), wanted)
                        right += wanted
                    for other in (None, 0, 2, Amount(5, 2), 1000):
                        wanted = self.is_right(office, owner, party, other)
                        self.assertIs(shows(office=office, value=party, bound=other), wanted)
                        right += wanted
        self.assertGreater(right, 50)


class TestWhatIsLookedAt(PartyCase):
    def test_rate_and_weights_of_a_plan(self):
        office = ring()
        band = bands(office)[0]
        answer = band.answer
        for other in (
            Lasting(None, answer.gaps, answer.row, None), Lasting(Amount(99), answer.gaps, answer.row, Weights(1, 2)),
            Lasting("2", answer.gaps, answer.row, [answer]),
        ):
            self.assertIs(shows_band(office, Band(band.hands, other, band.less)), True)
            self.assertIs(shows_band(office, Band(band.hands, other, band.less), bound=3), True)
            self.assertIs(shows_band(office, Band(band.hands, other, band.less), bound=2), False)
        dear = Row(office, 2, [(0, "up", 2), (0, "down", 1), (1, "down", 1)])
        for bound, wanted in ((None, True), (4, False), (5, True), (Amount(9, 2), True), (3, False)):
            paper = Band(band.hands, Lasting(answer.rate, answer.gaps, dear, answer.weights), band.less)
            self.assertIs(shows_band(office, paper, bound=bound), wanted)

    def test_gaps_and_row_where_none_is_below(self):
        office = ring()
        answer = price(office)
        for gaps, row in ((answer.gaps, answer.row), (None, None), ("a 1", 7), (answer, [answer])):
            for rate, bound, wanted in (
                (Amount(2), 2, True), (2, 2, True), (Amount(2), Amount(1, 2), True), (2, 0, True), (2, 3, False),
                (Amount(2), Amount(21, 10), False), (1, 1, False), ("2", 2, False), (True, 0, False), (None, 0, False),
                (Amount(2), None, False),
            ):
                guard = Guard((), Lasting(rate, gaps, row, answer.weights), ())
                self.assertIs(shows_guard(office, guard, bound=bound), wanted)
                self.assertIs(self.is_right(office, Guard, guard, bound), wanted)

    def test_weights_that_bear_less(self):
        # Weights may bear any number, also one below the rate; then they show no plan below that number.
        office = ring()
        less = Weights((("seea", Amount(0)), ("seeb", Amount(1, 2))), (
            ((0, "seea"), Amount(-1)), ((1, "seeb"), Amount(-1)),
        ))
        for rate, bound, wanted in ((1, 1, True), (Amount(1), 0, True), (1, 2, False), (2, 1, False), (-1, 0, False)):
            guard = Guard((), Lasting(rate, None, None, less), ())
            self.assertIs(shows_guard(office, guard, bound=bound), wanted)

    def test_limited_and_blocked(self):
        office = one_way()
        answer = price(office)
        self.assertIs(type(answer), Limited)
        for bound in (None, 0, 5):
            self.assertIs(shows_guard(office, Guard((), answer, ()), bound=bound), True)
            self.assertIs(shows_guard(office, Guard((), Blocked(answer.weights), ()), bound=bound), False)
            self.assertIs(shows_guard(ring(), Guard((), answer, ()), bound=bound), False)
            lasting = Lasting(1, None, None, answer.weights)
            self.assertIs(shows_guard(office, Guard((), lasting, ()), bound=bound), bound == 0)

    def test_nothing_is_changed(self):
        office = ring()
        told = bands(office) + guards(office)
        kept = [(party.hands, party.less, party.answer) for party in told]
        twin = office.twin()
        office.drop("up")
        self.assertTrue(all(shows_band(twin, party) or shows_guard(twin, party) for party in told))
        self.assertTrue(all(same(list(one), [p.hands, p.less, p.answer]) for one, p in zip(kept, told)))
        found = bands(twin)
        found.clear()
        self.assertEqual(len(bands(twin)), 1)


class TestSubsets(Case):
    def test_subsets(self):
        for many in range(6):
            parts = tuple("abcde"[:many])
            self.assertEqual(subsets(parts), subsets_of(parts))
            looks = tuple((day, name) for day in range(3) for name in "xy")[:many]
            self.assertEqual(subsets(looks), subsets_of(looks))

    def test_each_answer_is_asked_once(self):
        asked = []

        def answer_of(some):
            asked.append(some)
            return len(some)

        found = least_sets(("a", "b", "c"), answer_of, lambda answer: answer >= 2)
        self.assertEqual(found, [(("a", "b"), 2, (1, 1)), (("a", "c"), 2, (1, 1)), (("b", "c"), 2, (1, 1))])
        self.assertEqual(len(asked), len(set(asked)))


if __name__ == "__main__":
    unittest.main()
