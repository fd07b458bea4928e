"""The promises of the points [7], [9] and [11], and under holeshift/menus.py."""

import random
import time
import unittest

from holeshift.amounts import Amount
from holeshift.errors import BadBound, BadMenu, TooMany
from holeshift.items import Count, Shift
from holeshift.menus import Choice, Slip, Watch, fewest_looks, shows_slip, shows_watch, slips, watches
from holeshift.offices import Office
from holeshift.prices import Blocked, Lasting, Limited, price
from tests.definitions import (
    fraction, is_least_set, make, one_way, rate_of_two, ring, shows_none, shows_plan, sided, some_offices,
)
from tests.helper import Case, any_values, same
from tests.test_hands import WRONG_BOUNDS, bounds_near, is_below, least_of, of_two, subsets_of
from tests.variants import some_near


def free_looks(office):
    """The looks by its checks that an office does not have."""
    return [(day, name) for day in range(office.days) for name in office.checks if (day, name) not in office.looks]


def some_menu(chance, office, most=4):
    """A menu of an office, in any order, a list or a tuple."""
    found = free_looks(office)
    room = min(most, 12 - len(office.looks), len(found))
    menu = chance.sample(found, chance.randint(0, room))
    return menu if chance.random() < 0.5 else tuple(menu)


def with_looks(office, looks):
    """The office with these further looks, made anew."""
    found = office.twin()
    for day, name in looks:
        found[name] = found[name].with_days([*found[name].days, day])
    return found


def crew():
    office = ring()
    office["rise"] = Shift({"a": -1, "b": 1}, weight=5, hand="zoe")
    return office


class MenuCase(Case):
    def office_of(self, office, menu, owner, looks):
        return with_looks(office, looks if owner is Watch else [look for look in menu if look not in looks])

    def is_right(self, office, menu, owner, value, bound):
        """Whether any value is a Watch or a Slip as told, added up anew, clause by clause."""
        shows = [shows_none, shows_plan] if owner is Watch else [shows_plan, shows_none]
        return type(value) is owner and is_least_set(
            value.looks, menu, value, lambda looks: self.office_of(office, menu, owner, looks), shows, bound,
        )

    def assert_choices(self, office, menu, bound, rate_of=None):
        """Watches and slips are the least sets by the price of each set, have right answers, and meet each other."""
        rate_of = rate_of or (lambda one: fraction(price(one).rate) if price(one) else None)
        rates = {some: rate_of(with_looks(office, some)) for some in subsets_of(menu)}
        kept, kept_menu = office.twin(), list(menu)
        told = watches(office, menu, bound=bound)
        self.assertEqual([w.looks for w in told], least_of(menu, lambda some: not is_below(rates[some], bound)))
        rest = {some: tuple(sorted(look for look in menu if look not in some)) for some in rates}
        other = slips(office=office, menu=menu, bound=bound)
        wanted = least_of(menu, lambda some: is_below(rates[rest[some]], bound))
        self.assertEqual([slip.looks for slip in other], wanted)
        for choice in told + other:
            self.assert_choice(office, menu, choice, bound)
        meeting = least_of(menu, lambda some: all(set(some) & set(watch.looks) for watch in told))
        self.assertEqual([slip.looks for slip in other], meeting)
        meeting = least_of(menu, lambda some: all(set(some) & set(slip.looks) for slip in other))
        self.assertEqual([watch.looks for watch in told], meeting)
        first = fewest_looks(office, menu, bound=bound)
        self.assertTrue(first == told[0] if told else first is None)
        self.assertTrue(office == kept and list(menu) == kept_menu)
        return told, other

    def assert_choice(self, office, menu, choice, bound):
        """The answers of a choice are those of price, and show what they must."""
        owner, looks = type(choice), choice.looks
        self.assertTrue(choice.answer == price(self.office_of(office, menu, owner, looks)))
        offices = [self.office_of(office, menu, owner, looks[:at] + looks[at + 1:]) for at in range(len(looks))]
        self.assert_same(choice.less, tuple(price(one) for one in offices))
        self.assertTrue(self.is_right(office, menu, owner, choice, bound))
        shows, other = (shows_watch, shows_slip) if owner is Watch else (shows_slip, shows_watch)
        self.assertIs(shows(office, menu, choice, bound=bound), True)
        self.assertIs(shows(office, tuple(reversed(menu)), choice, bound=bound), True)
        self.assertIs(other(office, menu, choice, bound=bound), False)


class TestPapers(Case):
    def test_defined_here(self):
        for owner in (Choice, Watch, Slip):
            self.assert_defines(owner, ["__init__", "__eq__", "__len__", "__contains__"])
        for told in (Choice, Watch, Slip, watches, slips, fewest_looks, shows_watch, shows_slip):
            self.assertEqual(told.__module__, "holeshift.menus")
        self.assertEqual([Watch.__bases__, Slip.__bases__], [(Choice,), (Choice,)])

    def test_keep_any_values(self):
        for value in any_values():
            for owner in (Watch, Slip):
                for paper in (owner(value, [value], None), owner(less=None, answer=[value], looks=value)):
                    self.assertIs(paper.looks, value)
                    self.assertIs(paper.answer[0], value)
                    self.assertIsNone(paper.less)
                self.assertIs(owner(1, value, 2).answer, value)
                self.assertIs(owner(1, 2, value).less, value)

    def test_len_and_in(self):
        for owner in (Watch, Slip):
            for looks in ((), ((0, "x"),), ((0, "x"), (1, "x")), ((0, "x"), (0, "y"), (1, "x"))):
                choice = owner(looks, None, ())
                self.assert_same(len(choice), len(looks))
                for value in any_values() + [
                    (0, "x"), (1, "x"), (0, "y"), (False, "x"), (True, "x"), (Amount(0), "x"), [0, "x"], (0, "x", 1),
                    ((0, "x"),), (0,), ("x", 0), (0, "z"), (2, "x"),
                ]:
                    self.assertIs(value in choice, any(same(value, look) for look in looks))

    def test_equals(self):
        answers = [price(ring()), price(one_way())]
        told = [(((0, "x"),), answers[0], ()), (((1, "x"),), answers[0], ()), (((0, "x"),), answers[1], ()),
                (((0, "x"),), answers[0], (answers[1],)), ((), None, None)]
        papers = [owner(*fields) for owner in (Watch, Slip, Choice) for fields in told]
        self.assert_alike_themselves_alone(papers)


class TestChoices(MenuCase):
    def test_offices_of_two_accounts(self):
        chance, many = random.Random(51), set()
        for _ in range(60):
            office = of_two(chance)
            menu = some_menu(chance, office)
            rates = {rate_of_two(with_looks(office, some)) for some in subsets_of(menu)} - {None}
            for bound in chance.sample(bounds_near(sorted(rates)), 3) + [None]:
                told, other = self.assert_choices(office, menu, bound, rate_of_two)
                many.add((len(told), len(other)))
        # No slip and the empty watch, no watch and the empty slip, and several of one of them were met.
        self.assertTrue({(1, 0), (0, 1), (1, 1)} < many and max(told + other for told, other in many) > 2, many)

    def test_other_offices(self):
        chance = random.Random(52)
        for office in [sided(), ring() << 1] + some_offices(53, 25):
            menu = some_menu(chance, office, 3)
            for bound in (None, 0, chance.choice([1, 5, Amount(50, 3)])):
                self.assert_choices(office, menu, bound)

    def test_found(self):
        menu = [(1, "seea"), (0, "seeb")]
        for bound, watch, slip in (
            (None, [((0, "seeb"),), ((1, "seea"),)], [((0, "seeb"), (1, "seea"))]),
            (2, [()], []), (0, [()], []), (3, [((0, "seeb"),), ((1, "seea"),)], [((0, "seeb"), (1, "seea"))]),
        ):
            self.assertEqual([found.looks for found in watches(crew(), menu, bound=bound)], watch)
            self.assertEqual([found.looks for found in slips(crew(), tuple(menu), bound=bound)], slip)
        self.assertEqual([found.looks for found in watches(one_way(), menu)], [()])
        self.assertEqual([found.looks for found in slips(ring(), [])], [()])
        self.assertEqual([watches(ring(), []), slips(one_way(), ())], [[], []])
        self.assertIsNone(fewest_looks(office=ring(), menu=[]))
        self.assertEqual(fewest_looks(crew(), menu, bound=None).looks, ((0, "seeb"),))

    def test_looks_raise_the_rate_step_by_step(self):
        office = make(3, "ab", {
            "up": Shift({"a": -1, "b": 1}), "down": Shift({"a": 1, "b": -1}), "a": Count("a", 0), "b": Count("b", 1),
        })
        menu = [(2, "a"), (2, "b"), (1, "a")]
        for bound in (None, 0, 2, 3, Amount(5, 2)):
            self.assert_choices(office, menu, bound, rate_of_two)
        self.assertEqual([found.looks for found in watches(office, menu)], [((1, "a"),), ((2, "a"), (2, "b"))])

    def test_bearable_time(self):
        office = Office(5, *"abcde")
        for at, pair in enumerate(["ab", "bc", "cd", "de", "ea", "ba", "cb", "dc", "ed", "ae", "ac", "ce"]):
            days = [day for day in range(5) if day != at % 5]
            office[pair] = Shift({pair[0]: -1, pair[1]: 1}, *days, weight=at * at % 100 + 1)
        for at, account in enumerate("abcde"):
            office["see" + account] = Count(account, at)
        office["more"] = Count("a", 2)
        office["some"] = Count("c", 0)
        start = time.monotonic()
        menu = [(1, "seea"), (2, "seeb"), (3, "seec"), (4, "seed"), (0, "seee")]
        self.assertEqual(len(office.looks) + len(menu), 12)
        for bound in (None, 15):
            told, other = self.assert_choices(office, menu, bound)
        self.assertLess(time.monotonic() - start, 60)


class TestWrongInputs(MenuCase):
    def works(self, office, menu, bound):
        """All functions, each asked of the same."""
        watch, slip = Watch((), price(office), ()), Slip((), price(office), ())
        return [
            lambda: watches(office, menu, bound=bound), lambda: slips(office, menu, bound=bound),
            lambda: fewest_looks(office, menu, bound=bound), lambda: shows_watch(office, menu, watch, bound=bound),
            lambda: shows_slip(office, menu, slip, bound=bound), lambda: shows_watch(office, menu, None, bound=bound),
            lambda: shows_slip(office, menu, watch, bound=bound),
        ]

    def assert_all_raise(self, wanted, office, menu, bound=None):
        kept = list(menu) if isinstance(menu, list) else menu
        for work in self.works(office, menu, bound):
            self.assert_raises(wanted, work)
        self.assertTrue(same(menu, kept) or not isinstance(menu, list))

    def test_bounds_first(self):
        office = ring()
        for value in WRONG_BOUNDS + [-1, Amount(-1, 9), True]:
            for menu in ([], [(1, "seea")], None, [(0, "seea")], [None] * 6):
                for work in self.works(office, menu, value):
                    error = self.assert_raises(BadBound(value), work)
                    self.assertIs(error.value, value)

    def test_no_menu(self):
        for value in any_values():
            if not isinstance(value, (list, tuple)):
                self.assert_all_raise(BadMenu(None), ring(), value)

    def test_wrong_looks(self):
        office = ring()
        good = [(1, "seea"), (0, "seeb")]
        for wrong in any_values() + [
            (0, "seea"), (1, "seeb"), (2, "seea"), (-1, "seea"), (True, "seea"), (Amount(1), "seea"), (1, "up"),
            (1, "other"), (1, None), [1, "seea"], (1, "seea", 0), (1,), ("seea", 1), ("1", "seea"),
        ]:
            self.assert_all_raise(BadMenu(0), office, [wrong])
            self.assert_all_raise(BadMenu(1), office, (good[0], wrong, wrong))
            self.assert_all_raise(BadMenu(2), office, good + [wrong] * 5)
        self.assert_all_raise(BadMenu(1), office, [good[0], good[0]])
        self.assert_all_raise(BadMenu(2), office, [good[0], good[1], good[0], None])

    def test_too_many(self):
        office = make(5, "ab", {"x": Count("a", 0), "y": Count("b", 1)})
        free = free_looks(office)
        self.assertEqual(len(free), 8)
        for many in range(9):
            menu = free[:many]
            if many > 5:
                self.assert_all_raise(TooMany("menu", 5), office, menu)
                self.assert_all_raise(BadMenu(many), office, menu + menu[:1])
            else:
                watches(office, menu)
        eight = make(5, "ab", {"x": Count("a", 0, 1, 2, 3), "y": Count("b", 0, 1, 2, 3), "z": Count("b", 0)})
        free = free_looks(eight)
        self.assertEqual(len(eight.looks), 9)
        self.assert_choices(eight, free[:3], None)
        for many in (4, 5):
            self.assert_all_raise(TooMany("looks", 12), eight, free[:many])
            self.assert_all_raise(BadMenu(many - 1), eight, free[:many - 1] + [(0, "x")])
        self.assert_all_raise(TooMany("menu", 5), eight, free[:6])

    def test_bound_by_name_alone(self):
        for work in (watches, slips, fewest_looks):
            with self.assertRaises(TypeError):
                work(ring(), [], 3)

    def test_any_values(self):
        office, menu = ring(), [(1, "seea"), (0, "seeb")]
        watch, slip = watches(office, menu)[0], slips(office, menu)[0]
        for value in any_values():
            self.assert_same([shows_watch(office, menu, value), shows_slip(office, menu, value)], [False, False])
            for owner, paper, shows in ((Watch, watch, shows_watch), (Slip, slip, shows_slip)):
                for wrong in (
                    owner(value, paper.answer, paper.less), owner(paper.looks, value, paper.less),
                    owner(paper.looks, paper.answer, value), owner(value, value, value), Choice(paper.looks, 1, value),
                    owner((value,), paper.answer, paper.less), owner(paper.looks, Limited(value), paper.less),
                    owner(paper.looks, Blocked(value), paper.less), owner(((value, "seea"),), value, (value,)),
                    owner(paper.looks, Lasting(value, value, value, value), paper.less),
                ):
                    self.assertIs(shows(office, menu, wrong), False)
                    self.assertIs(shows(office, menu, wrong, bound=3), False)

    def test_papers_near(self):
        chance, right = random.Random(54), 0
        for office in [ring(), crew(), sided()] + [of_two(chance) for _ in range(12)]:
            menu = some_menu(chance, office, 3)
            for bound in (None, 3, Amount(17, 2)):
                for choice in watches(office, menu, bound=bound) + slips(office, menu, bound=bound):
                    owner, shows = type(choice), shows_watch if type(choice) is Watch else shows_slip
                    for value in some_near(chance, choice, 40):
                        wanted = self.is_right(office, menu, owner, value, bound)
                        self.assertIs(shows(office, menu, value, bound=bound), wanted)
                        right += wanted
                    for other in (None, 0, 2, Amount(5, 2), 1000):
                        wanted = self.is_right(office, menu, owner, choice, other)
                        self.assertIs(shows(office=office, menu=menu, value=choice, bound=other), wanted)
                        right += wanted
        self.assertGreater(right, 50)

    def test_looks_in_another_order(self):
        office, menu = ring(), [(1, "seea"), (0, "seeb")]
        three = make(3, "ab", {
            "up": Shift({"a": -1, "b": 1}), "down": Shift({"a": 1, "b": -1}), "a": Count("a", 0), "b": Count("b", 1),
        })
        looks = [(2, "a"), (2, "b")]
        for one, told, choice, shows in (
            (office, menu, slips(office, menu)[0], shows_slip), (three, looks, watches(three, looks)[0], shows_watch),
        ):
            self.assertEqual(len(choice), 2)
            turned = type(choice)(choice.looks[::-1], choice.answer, choice.less[::-1])
            self.assert_same([shows(one, told, choice), shows(one, told, turned)], [True, False])

    def test_looks_of_other_kinds(self):
        office, menu = ring(), [(1, "seea"), (0, "seeb")]
        watch = watches(office, menu)[1]
        self.assertEqual(watch.looks, ((1, "seea"),))
        for looks in (((True, "seea"),), ((Amount(1), "seea"),), [(1, "seea")], ([1, "seea"],), ((1, "seea", 0),)):
            self.assertIs(shows_watch(office, menu, Watch(looks, watch.answer, watch.less)), False)
        self.assertIs(shows_watch(office, menu[1:], watch), False)


if __name__ == "__main__":
    unittest.main()
