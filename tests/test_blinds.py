"""The promises of the point [11] about blind places, and under holeshift/blinds.py."""

import random
import unittest

from holeshift.amounts import Amount
from holeshift.blinds import Blind, Pinned, Place, blind, shows_blind
from holeshift.errors import NoCheck
from holeshift.gaps import Gaps
from holeshift.items import Count, Match, Shift, Total
from holeshift.offices import Office
from holeshift.prices import price
from holeshift.spans import multiples_of
from tests.definitions import (
    fraction, full, has_blind_place, is_pairs, is_told_gaps, make, offices, one_way, ring, seen_by, sided, some_check,
    some_offices, told,
)
from tests.helper import Case, any_values
from tests.variants import near


def is_right(office, value):
    """Whether any value is a Blind or a Pinned as told, added up anew."""
    if type(value) is Blind:
        if not is_told_gaps(office, value.gaps):
            return False
        gaps = told(office, value.gaps)
        return sum(gaps.values()) == 1 and all(seen_by(office[name], gaps) == 0 for name in office.checks)
    if type(value) is not Pinned or not is_pairs(value.multiples, office.checks):
        return False
    return all(
        sum(fraction(number) * office[name][account] for name, number in value.multiples) == 1
        for account in office.accounts
    )


def by_chance(chance):
    """An office of one to five accounts with none to six checks."""
    accounts, days = "abcde"[:chance.randint(1, 5)], chance.randint(1, 5)
    office = Office(days, *accounts)
    for letter in "uvwxyz"[:chance.randint(0, 6)]:
        office["c" + letter] = some_check(chance, accounts, 1)
    if len(accounts) > 1 and chance.random() < 0.5:
        office["k"] = Shift({"a": 1, "b": -1}, hand="any")
    return office


class TestPapers(Case):
    def test_defined_here(self):
        for owner in (Place, Blind, Pinned):
            self.assert_defines(owner, ["__bool__", "__eq__"])
            self.assertEqual(owner.__module__, "holeshift.blinds")
        self.assert_defines(Pinned, ["__init__", "__getitem__"])
        self.assert_defines(Blind, ["__init__"])
        self.assertEqual([Blind.__bases__, Pinned.__bases__], [(Place,), (Place,)])
        self.assertEqual([blind.__module__, shows_blind.__module__], ["holeshift.blinds"] * 2)

    def test_keep_any_values(self):
        for value in any_values():
            self.assertIs(Blind(value).gaps, value)
            self.assertIs(Blind(gaps=value).gaps, value)
            self.assertIs(Pinned(value).multiples, value)
            self.assertIs(Pinned(multiples=value).multiples, value)
            self.assert_same([bool(Blind(value)), bool(Pinned(value))], [True, False])
        self.assertIs(bool(Place()), False)

    def test_equals(self):
        pairs = (("x", Amount(1)), ("y", Amount(-1, 2)))
        papers = [
            Place(), Blind(1), Blind(2), Pinned(1), Pinned(2), Blind(Gaps()), Blind(Gaps({"a": 1})), Pinned(()),
            Pinned(pairs), Pinned(pairs[:1]), Blind(None), Pinned(None),
        ]
        self.assert_alike_themselves_alone(papers)
        self.assertTrue(Blind(Gaps({"a": 1})) == Blind(Gaps({"a": Amount(1), "b": 0})))

    def test_pinned_multiples(self):
        office = make(3, "abc", {"m": Match(["a"], ["b"], 0), "c": Count("c", 0), "t": Total(["a", "c"], 1)})
        pinned = blind(office)
        self.assert_same([pinned["c"], pinned["m"], pinned["t"]], [Amount(-1), Amount(-1), Amount(2)])
        for value in any_values() + ["", "M", "a", "tt", ("t",), ["t"]]:
            if value != "c":
                error = self.assert_raises(NoCheck(value), lambda: pinned[value])
                self.assertIs(error.name, value)
        with self.assertRaises(TypeError):
            list(pinned)


class TestBlind(Case):
    def assert_place(self, office):
        """What blind tells is right, for blind places just where there is one, and the same again."""
        kept = office.twin()
        found = blind(office)
        self.assertTrue(is_right(office, found))
        self.assertIs(bool(found), has_blind_place(office))
        self.assertIs(type(found), Blind if has_blind_place(office) else Pinned)
        self.assertIs(shows_blind(office, found), True)
        self.assertTrue(blind(office=kept) == found and office == kept)
        for name in office.checks:
            if not found:
                self.assert_same(found[name], dict(found.multiples)[name])
        return found

    def test_by_chance(self):
        chance, many = random.Random(31), {Blind: 0, Pinned: 0}
        for _ in range(300):
            many[type(self.assert_place(by_chance(chance)))] += 1
        self.assertGreater(min(many.values()), 60)

    def test_offices(self):
        for office in offices() + some_offices(32, 60):
            found = self.assert_place(office)
            self.assertIs(bool(found), price(office).__class__.__name__ == "Lasting" and price(office).rate == 0)

    def test_found(self):
        for office, gaps in (
            (Office(1, "a"), "a 1"), (make(1, "ab", {"x": Count("a", 0)}), "b 1"),
            (make(2, "ab", {"x": Match(["a"], ["b"], 0, 1)}), "a 1/2 b 1/2"),
            (make(1, "abc", {"x": Total(["a", "b"], 0)}), None),
        ):
            found = self.assert_place(office)
            self.assertIs(bool(found), True)
            if gaps is not None:
                self.assertEqual(str(found.gaps), gaps)
        for office in (
            make(1, "a", {"x": Count("a", 0)}), make(1, "abcde", {"x": Total(list("abcde"), 0)}), ring(), full(),
            make(2, "ab", {"x": Count("b", 0), "y": Match(["a"], ["b"], 1)}),
        ):
            self.assertIs(bool(self.assert_place(office)), False)

    def test_kinds_and_days_play_no_part(self):
        for office in [ring(), sided(), one_way()] + some_offices(33, 20):
            found = blind(office)
            bare = office.twin()
            for name in office.kinds:
                bare.drop(name)
            self.assertTrue(blind(bare) == found)
            other = Office(5, *office.accounts)
            for name in office.checks:
                other[name] = office[name].begun_at(0, 5).with_days([4])
            self.assertTrue(blind(other) == found)
            self.assertIs(shows_blind(bare, found), True)

    def test_shows_any_such(self):
        office = make(1, "abc", {"x": Total(["a", "b"], 0)})
        third = Amount(1, 3)
        for gaps in (Gaps({"c": 1}), Gaps({"a": 5, "b": -5, "c": 1}), Gaps({"a": third, "b": -third, "c": 1})):
            self.assertIs(shows_blind(office, Blind(gaps)), True)
        for gaps in (
            Gaps(), Gaps({"c": 2}), Gaps({"a": 1}), Gaps({"a": 1, "c": 1}), Gaps({"c": 1, "d": 0}),
            Gaps({"c": 1, "d": 1, "e": -1}), Gaps({"a": 1, "b": -1, "d": 1}),
        ):
            self.assertIs(shows_blind(office, Blind(gaps)), gaps == Gaps({"c": 1}))
        twice = make(1, "a", {"x": Count("a", 0), "y": Total(["a"], 0)})
        for x, y, wanted in ((1, 0, True), (0, 1, True), (7, -6, True), (1, 1, False), (0, 0, False), (-1, 0, False)):
            for pinned in (Pinned((("x", Amount(x)), ("y", Amount(y)))), Pinned((("y", Amount(y)), ("x", Amount(x))))):
                in_order = pinned.multiples[0][0] == "x"
                self.assertIs(shows_blind(office=twice, value=pinned), wanted and in_order)
            self.assertIs(shows_blind(twice, Pinned((("x", x), ("y", y)))), False)

    def test_papers_near(self):
        chance = random.Random(34)
        right = 0
        for office in [ring(), sided(), full(), make(2, "ab", {"x": Count("a", 0)})] + [
            by_chance(chance) for _ in range(30)
        ]:
            found = blind(office)
            for value in near(found):
                self.assertIs(shows_blind(office, value), is_right(office, value))
                right += is_right(office, value)
        self.assertGreater(right, 20)

    def test_any_values(self):
        for office in (ring(), make(1, "ab", {"x": Count("a", 0)}), Office(1, "a")):
            for value in any_values():
                self.assertIs(shows_blind(office, value), False)
                for paper in (Blind(value), Pinned(value), Place(), Blind(Blind(value)), Pinned((value,))):
                    self.assertIs(shows_blind(office, paper), is_right(office, paper))

    def test_nothing_is_changed(self):
        office = ring()
        pinned = blind(office)
        multiples = pinned.multiples
        shows_blind(office, pinned)
        office.drop("seea")
        self.assertIs(shows_blind(office, pinned), False)
        self.assertTrue(pinned.multiples is multiples and pinned == blind(ring()))


class TestMultiples(Case):
    def test_small_ones(self):
        for vectors, aim, wanted in (
            ([], [], []), ([[]], [], [0]), ([[1, 1]], [1, 1], [1]), ([[2, 0], [0, 3]], [1, 1], None),
            ([[1, -1], [0, 1]], [1, 1], [1, 2]),
        ):
            found, numbers = multiples_of(vectors, aim)
            self.assertIsNone(numbers)
            if wanted is not None:
                self.assert_same(found, [Amount(number) for number in wanted])
            else:
                self.assert_same(found, [Amount(1, 2), Amount(1, 3)])
        for vectors, aim in (([], [1]), ([[0, 0]], [0, 1]), ([[1, 1], [2, 2]], [1, 0])):
            found, numbers = multiples_of(vectors, aim)
            self.assertIsNone(found)
            self.assert_same(Amount.total([number * part for number, part in zip(numbers, aim)]), Amount(1))
            for vector in vectors:
                self.assert_same(Amount.total([number * part for number, part in zip(numbers, vector)]), Amount(0))


if __name__ == "__main__":
    unittest.main()
