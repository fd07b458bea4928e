"""The promises of the points [6] and [11] and under holeshift/offices.py."""

import unittest

from holeshift.amounts import Amount
from holeshift.errors import (
    BadDay, BadItem, BadLook, BadName, BadOffice, Clash, InUse, NoAccount, NoItem, TooMany, Unlike,
)
from holeshift.items import Count, Match, Shift, Total
from holeshift.linear import Dated, Linear
from holeshift.offices import Office
from tests.helper import Case, any_values, not_ints

UP, DOWN = Shift({"a": -1, "b": 1}, hand="bob"), Shift({"a": 1, "b": -1}, 0, weight=3, hand="eve")
NO_NAMES = ["", "abcdefghi", "A", "a1", "a b", 1, 0, True, None, (), ("a",), ["a"], {}]
METHODS = [
    "__init__", "__setitem__", "__getitem__", "drop", "__contains__", "__len__", "set_days", "kinds_on", "looks_on",
    "twin", "__eq__", "__or__", "__ior__", "__lshift__", "__mul__", "renamed", "with_hands", "without_hands",
    "with_looks",
]
PROPERTIES = ["accounts", "names", "kinds", "checks", "hands", "looks", "days"]


def make(days, accounts, items):
    office = Office(days, *accounts)
    for name, item in items.items():
        office[name] = item
    return office


def ring():
    return make(2, "ab", {"up": UP, "seea": Count("a", 0), "down": DOWN, "seeb": Count("b", 1)})


def wide():
    return make(3, "cab", {
        "up": UP, "z": Shift({"b": 2, "c": -2}, 2, 0), "down": DOWN, "match": Match(["a"], ["c"], 2),
        "all": Total(list("abc"), 0, 1), "seeb": Count("b", 1),
    })


def name_of(at):
    return "abcdefghijklmnopqrstuvwxyz"[at // 26] + "abcdefghijklmnopqrstuvwxyz"[at % 26]


def full():
    """An office with as many kinds, checks, shifts and looks as there may be."""
    kinds = {"k" + name_of(at): Shift({"a": 1, "b": -1}, 0, 1, 2, 3) for at in range(12)}
    checks = {"c" + name_of(at): Count("a", *range(at % 2 + 1)) for at in range(8)}
    return make(5, "ab", {**kinds, **checks})


def shape(office):
    """All that an office tells of itself."""
    return office.days, office.accounts, {name: str(office[name]) for name in office.names}


class OfficeCase(Case):
    def assert_office(self, office, days, accounts, items):
        self.assertIs(type(office), Office)
        texts = {name: str(items[name]) for name in sorted(items)}
        self.assert_same(shape(office), (days, tuple(sorted(accounts)), texts))
        kinds = [name for name in sorted(items) if isinstance(items[name], Shift)]
        checks = [name for name in sorted(items) if name not in kinds]
        self.assert_same([office.names, office.kinds], [tuple(sorted(items)), tuple(kinds)])
        self.assert_same([office.checks, len(office)], [tuple(checks), len(items)])
        self.assert_same(office.hands, tuple(sorted({items[name].hand for name in kinds})))
        looks = [(day, name) for day in range(days) for name in checks if day in items[name].days]
        self.assert_same(office.looks, tuple(looks))
        for day in list(range(2 * days)) + [10 ** 59]:
            on = day % days
            self.assert_same(office.kinds_on(day), tuple(n for n in kinds if on in items[n].days or not items[n].days))
            self.assert_same(office.looks_on(day), tuple(name for name in checks if on in items[name].days))

    def assert_unchanged(self, wanted, office, work, *args):
        before = shape(office)
        self.assert_raises(wanted, work, *args)
        self.assert_same(shape(office), before)


class TestMaking(OfficeCase):
    def test_defined_here(self):
        self.assert_defines(Office, METHODS)
        for name in PROPERTIES:
            self.assertIsInstance(vars(Office)[name], property)
        self.assertEqual(Office.__module__, "holeshift.offices")
        values = {"DAYS": 5, "ACCOUNTS": 5, "KINDS": 12, "LOOKS": 12, "CHECKS": 8, "SHIFTS": 48}
        for name, value in values.items():
            self.assert_same(vars(Office)[name], value)

    def test_made(self):
        self.assert_office(Office(1, "a"), 1, "a", {})
        self.assert_office(Office(5, "e", "c", "a", "b", "d"), 5, "abcde", {})
        self.assert_office(ring(), 2, "ab", {"up": UP, "down": DOWN, "seea": Count("a", 0), "seeb": Count("b", 1)})
        self.assert_same(wide().looks, ((0, "all"), (1, "all"), (1, "seeb"), (2, "match")))

    def test_no_days(self):
        for value in not_ints(1, 5):
            self.assert_raises(BadOffice("days"), Office, value, "a")
            self.assert_raises(BadOffice("days"), Office, value, "A", "a", "a")

    def test_no_name(self):
        for value in any_values() + NO_NAMES:
            if value not in ("a", "none"):
                error = self.assert_raises(BadName(value), Office, 1, "b", "b", value, "A", *"cdefg")
                self.assertIs(error.value, value)

    def test_accounts(self):
        self.assert_raises(BadOffice("accounts"), Office, 1)
        self.assert_raises(BadOffice("accounts"), Office, 1, "a", "b", "a")
        self.assert_raises(BadOffice("accounts"), Office, 1, *"abcdefa")
        self.assert_raises(TooMany("accounts", 5), Office, 1, *"abcdef")


class TestSetting(OfficeCase):
    def test_set_and_replaced(self):
        office = Office(2, "a", "b")
        items = {}
        for name, item in (
            ("z", UP), ("a", Count("a", 1)), ("m", DOWN), ("z", DOWN), ("a", UP), ("m", Total(["a", "b"], 0, 1)),
        ):
            office[name] = item
            items[name] = item
            self.assert_office(office, 2, "ab", items)
            self.assertEqual(office[name], item)

    def test_no_name(self):
        for value in any_values() + NO_NAMES:
            if value not in ("a", "none"):
                office = ring()
                for item in (UP, None, Count("z", 4)):
                    self.assert_unchanged(BadName(value), office, office.__setitem__, value, item)

    def test_no_item(self):
        office = ring()
        for value in any_values() + [Linear({"a": 1}), Dated(0), "count a 0", Shift, Count]:
            if not isinstance(value, (Shift, Count, Total, Match)):
                self.assert_unchanged(BadItem("item"), office, office.__setitem__, "x", value)

    def test_no_account(self):
        office = ring()
        self.assert_unchanged(NoAccount("c"), office, office.__setitem__, "x", Count("c", 4))
        self.assert_unchanged(NoAccount("c"), office, office.__setitem__, "up", Total(["d", "b", "c"], 0))
        self.assert_unchanged(NoAccount("aa"), office, office.__setitem__, "x", Match(["z"], ["aa"], 0))
        self.assert_unchanged(NoAccount("c"), office, office.__setitem__, "x", Shift({"a": 1, "c": -1}, 3))

    def test_no_day(self):
        office = ring()
        for item, day in ((Count("a", 2), 2), (Count("a", 4, 1, 3), 3), (Shift({"a": 1, "b": -1}, 0, 2, 4), 2)):
            self.assert_unchanged(BadDay(day), office, office.__setitem__, "x", item)
        five = Office(5, "a", "b")
        five["x"] = Count("a", 4)
        self.assert_same(five.looks, ((4, "x"),))

    def test_too_many(self):
        office = full()
        self.assert_same([len(office.kinds), len(office.checks), len(office.looks)], [12, 8, 12])
        for name, item, error in (
            ("x", Shift({"a": 1, "b": -1}, 0), TooMany("kinds", 12)), ("x", UP, TooMany("kinds", 12)),
            ("x", Count("a", 0), TooMany("checks", 8)), ("x", Count("a", 0, 1, 2), TooMany("checks", 8)),
            ("kaa", UP, TooMany("shifts", 48)), ("kaa", Count("a", 0), TooMany("checks", 8)),
            ("cab", UP, TooMany("kinds", 12)), ("caa", Count("a", 0, 1), TooMany("looks", 12)),
            ("x", Count("c", 0), NoAccount("c")),
        ):
            self.assert_unchanged(error, office, office.__setitem__, name, item)
        office["kaa"], office["cab"] = DOWN, Match(["a"], ["b"], 3, 4)
        self.assert_same([str(office["kaa"]), str(office["cab"])], [str(DOWN), "match a b 3,4"])
        office.drop("caa")
        self.assert_unchanged(TooMany("looks", 12), office, office.__setitem__, "x", Count("a", 0, 1))
        office["x"] = Count("a", 4)
        office.drop("kab")
        office["kab"] = Shift({"a": 1, "b": -1}, 0, 1, 2, 3)
        office["kaa"] = Shift({"a": 1, "b": -1}, 0, 1, 2, 4)
        self.assert_unchanged(TooMany("shifts", 48), office, office.__setitem__, "kac", UP)

    def test_kinds_without_days(self):
        office = Office(5, "a", "b")
        for at in range(9):
            office["k" + name_of(at)] = UP
        office["x"] = Shift({"a": 1, "b": -1}, 0, 1, 2)
        self.assert_unchanged(TooMany("shifts", 48), office, office.__setitem__, "y", DOWN)
        self.assert_unchanged(TooMany("shifts", 48), office, office.__setitem__, "x", UP)
        four = Office(4, "a", "b")
        for at in range(12):
            four["k" + name_of(at)] = UP
        self.assert_unchanged(TooMany("shifts", 48), four, four.set_days, 5)
        self.assert_unchanged(TooMany("kinds", 12), four, four.__setitem__, "x", UP)

    def test_reading_and_dropping_no_item(self):
        office = ring()
        for value in any_values() + NO_NAMES:
            self.assert_unchanged(NoItem(value), office, office.__getitem__, value)
            self.assert_unchanged(NoItem(value), office, office.drop, value)
            self.assertIs(value in office, False)
        self.assertIs("up" in office, True)

    def test_drop(self):
        office = wide()
        self.assertIsNone(office.drop("up"))
        self.assertIsNone(office.drop(name="match"))
        self.assertEqual(office.names, ("all", "down", "seeb", "z"))
        self.assert_unchanged(NoItem("up"), office, office.drop, "up")

    def test_not_iterated_over(self):
        with self.assertRaises(TypeError):
            list(ring())

    def test_no_day_of_a_row(self):
        office = ring()
        for value in not_ints(0):
            self.assert_raises(BadDay(value), office.kinds_on, value)
            self.assert_raises(BadDay(value), office.looks_on, value)
        self.assert_same([office.kinds_on(day=3), office.looks_on(day=3)], [("up",), ("seeb",)])

    def test_properties_of_papers_are_not_assigned(self):
        office = ring()
        with self.assertRaises(AttributeError):
            office.looks = ()
        self.assertTrue(office == ring())


class TestDays(OfficeCase):
    def test_assigned(self):
        items = {name: ring()[name] for name in ring().names}
        for days in (2, 3, 4, 5):
            office, other = ring(), ring()
            office.days = days
            self.assertIsNone(other.set_days(days=days))
            self.assert_office(office, days, "ab", items)
            self.assert_office(other, days, "ab", items)
            office.days = 2
            self.assert_office(office, 2, "ab", items)

    def test_no_days(self):
        office = ring()
        for value in not_ints(1, 5):
            self.assert_unchanged(BadOffice("days"), office, office.set_days, value)
            self.assert_unchanged(BadOffice("days"), office, setattr, office, "days", value)

    def test_in_use(self):
        for days, day in ((1, 1), (2, 2)):
            office = wide()
            self.assert_unchanged(InUse(day), office, office.set_days, days)
            self.assert_unchanged(InUse(day), office, setattr, office, "days", days)
        five = make(5, "ab", {"x": Shift({"a": 1, "b": -1}, 4, 0), "y": Count("a", 3)})
        self.assert_unchanged(InUse(3), five, five.set_days, 2)
        self.assert_unchanged(InUse(4), five, five.set_days, 4)

    def test_too_many(self):
        items = {"k" + name_of(at): UP for at in range(10)}
        office = make(3, "ab", {**items, "x": Count("a", 2)})
        self.assert_unchanged(TooMany("shifts", 48), office, office.set_days, 5)
        self.assert_unchanged(InUse(2), office, office.set_days, 2)
        office.set_days(4)
        self.assertEqual(office.days, 4)


class TestTwinsAndEquality(OfficeCase):
    def test_twin(self):
        office = wide()
        twin = office.twin()
        self.assertTrue(twin == office and twin is not office)
        before = shape(office)
        twin["new"] = UP
        twin.drop("up")
        twin.days = 5
        self.assert_same(shape(office), before)
        office.drop("z")
        self.assertIn("z", twin)

    def test_equals(self):
        offices = [
            Office(1, "a"), Office(2, "a"), Office(1, "b"), Office(1, "a", "b"), ring(), wide(), ring() << 1,
            ring() * 2, make(2, "ab", {"up": UP}), make(2, "ab", {"down": UP}), make(2, "ab", {"up": DOWN}),
            make(3, "ab", {"up": UP}),
            make(2, "abc", {"up": UP}), make(2, "ab", {"up": Count("a", 0)}), make(2, "ab", {"up": Total(["a"], 0)}),
        ]
        for at, one in enumerate(offices):
            for place, other in enumerate(offices):
                self.assert_same([one == other, one != other], [at == place, at != place])
        self.assertTrue(Office(1, "b", "a") == Office(1, "a", "b"))
        self.assertTrue(make(2, "ba", {"x": DOWN, "up": UP}) == make(2, "ab", {"up": UP, "x": DOWN}))

    def test_equals_nothing_else(self):
        for value in any_values():
            self.assert_same([ring() == value, value == ring(), ring() != value], [False, False, True])


class TestOtherOffices(OfficeCase):
    def assert_free(self, office, work):
        """The work returns an office that goes its own way, and leaves the first one as it was."""
        before = shape(office)
        made = work(office)
        self.assert_same(shape(office), before)
        self.assertIsNot(made, office)
        kept = shape(made)
        made["new"] = Count(made.accounts[0], 0)
        made.set_days(5)
        self.assert_same(shape(office), before)
        twin = work(office)
        office["other"] = Count(office.accounts[0], 0)
        self.assert_same(shape(twin), kept)

    def test_go_their_own_ways(self):
        for work in (
            lambda office: office.twin(), lambda office: office | Office(3, "a", "b", "c"), lambda office: office << 1,
            lambda office: office << 0, lambda office: office * 1, lambda office: office.renamed({}),
            lambda office: office.renamed({"a": "x"}), lambda office: office.with_hands("bob"),
            lambda office: office.without_hands(), lambda office: office.with_looks((0, "seeb")),
            lambda office: office.with_looks(),
        ):
            self.assert_free(wide(), work)

    def test_or(self):
        one, other = make(2, "ab", {"up": UP, "x": Count("a", 0)}), make(2, "ba", {"down": DOWN, "x": Count("a", 0)})
        items = {"up": UP, "down": DOWN, "x": Count("a", 0)}
        self.assert_office(one | other, 2, "ab", items)
        self.assert_office(other | one, 2, "ab", items)
        self.assert_office(one, 2, "ab", {"up": UP, "x": Count("a", 0)})
        self.assert_office(other, 2, "ab", {"down": DOWN, "x": Count("a", 0)})
        kept = one
        one |= other
        self.assert_office(one, 2, "ab", items)
        self.assert_office(kept, 2, "ab", {"up": UP, "x": Count("a", 0)})

    def test_or_raises(self):
        one = make(2, "ab", {"up": UP, "x": Count("a", 0), "z": UP})
        for other, error in (
            (make(3, "abc", {"up": DOWN}), Unlike("days")), (make(2, "ac", {}), Unlike("accounts")),
            (make(2, "abc", {"up": UP}), Unlike("accounts")),
            (make(2, "ab", {"z": DOWN, "x": Total(["a"], 0), "a": UP, "up": UP}), Clash("x")),
            (make(2, "ab", {"up": Shift({"a": -1, "b": 1}, hand="eve")}), Clash("up")),
            (make(2, "ab", {"up": Shift({"a": -1, "b": 1}, weight=2, hand="bob")}), Clash("up")),
        ):
            self.assert_unchanged(error, one, lambda: one | other)
            self.assert_unchanged(error, other, lambda: one | other)
            self.assert_unchanged(error, other, lambda: one.__ior__(other))

    def test_or_too_many(self):
        office = full()
        kind, check = Shift({"a": 1, "b": -1}, 4), Count("b", 4)
        for items, error in (
            ({"x": kind, "y": check}, TooMany("kinds", 12)), ({"y": check}, TooMany("checks", 8)),
        ):
            self.assert_unchanged(error, office, lambda: office | make(5, "ab", items))
        one = make(5, "ab", {"k" + name_of(at): UP for at in range(6)})
        other = make(5, "ab", {"m" + name_of(at): UP for at in range(4)})
        self.assert_raises(TooMany("shifts", 48), lambda: one | other)
        one = make(5, "ab", {"c" + name_of(at): Count("a", 0, 1, 2) for at in range(3)})
        self.assert_raises(TooMany("looks", 12), lambda: one | make(5, "ab", {"m": Count("a", 0, 1, 2, 3)}))
        self.assertEqual(len((one | make(5, "ab", {"m": Count("a", 0, 1, 2)})).looks), 12)

    def test_begun_later(self):
        for office in (ring(), wide(), full(), Office(1, "a")):
            items = {name: office[name] for name in office.names}
            for k in (0, 1, 2, 3, 5, -1, -4, 10 ** 59, -10 ** 59):
                wanted = {name: item.begun_at(k, office.days) for name, item in items.items()}
                self.assert_office(office << k, office.days, office.accounts, wanted)
            self.assert_office(office, office.days, office.accounts, items)
            self.assertTrue(office << office.days == office)
        self.assert_same((wide() << 1).looks, ((0, "all"), (0, "seeb"), (1, "match"), (2, "all")))

    def test_told_several_times(self):
        for office, k in ((ring(), 1), (ring(), 2), (wide(), 1), (full(), 1), (Office(1, "a"), 5)):
            items = {name: office[name] for name in office.names}
            wanted = {name: item.repeated(k, office.days) for name, item in items.items()}
            self.assert_office(office * k, office.days * k, office.accounts, wanted)
            self.assert_office(office, office.days, office.accounts, items)
        daily = make(1, "ab", {"up": UP, "down": Shift({"a": 1, "b": -1}, 0)}) * 3
        self.assert_same([daily["up"].days, daily["down"].days], [(), (0, 1, 2)])

    def test_told_several_times_raises(self):
        office = ring()
        for value in not_ints(1):
            self.assert_unchanged(BadOffice("times"), office, office.__mul__, value)
            self.assert_raises(BadOffice("times"), lambda: office * value)
        self.assert_raises(BadOffice("times"), lambda: office * Amount(2))
        for k in (3, 4, 10 ** 59):
            self.assert_unchanged(TooMany("days", 5), office, office.__mul__, k)
        items = {"k" + name_of(at): Shift({"a": 1, "b": -1}, 0) for at in range(10)}
        checks = {"c" + name_of(at): Count("a", 0) for at in range(3)}
        self.assert_raises(TooMany("shifts", 48), lambda: make(1, "ab", {**items, **checks}) * 5)
        self.assert_raises(TooMany("looks", 12), lambda: make(1, "ab", checks) * 5)
        self.assert_raises(TooMany("days", 5), lambda: make(1, "ab", {**items, **checks}) * 6)

    def test_renamed(self):
        office = wide()
        items = {name: office[name] for name in office.names}
        for names in ({}, {"a": "b", "b": "a"}, {"c": "till", "zz": "a"}, {"a": "z", "b": "y", "c": "x"}):
            wanted = {name: item.renamed(names) for name, item in items.items()}
            accounts = [names.get(account, account) for account in "abc"]
            self.assert_office(office.renamed(names), 3, accounts, wanted)
            self.assert_office(office, 3, "abc", items)
        self.assert_same(Office(2, "a", "b").renamed(names={"a": "till"}).accounts, ("b", "till"))

    def test_renamed_raises(self):
        office = Office(2, "a", "b", "c", "d")
        for value in any_values() + NO_NAMES:
            if value not in ("a", "none"):
                self.assert_unchanged(BadName(value), office, office.renamed, {"d": 1, "c": "", "b": value, "a": "d"})
        for names, clash in (
            ({"a": "b"}, "b"), ({"a": "x", "b": "x", "c": "d"}, "d"), ({"c": "y", "d": "y", "a": "z", "b": "z"}, "y"),
        ):
            self.assert_unchanged(Clash(clash), office, office.renamed, names)

    def test_hands(self):
        office = wide()
        items = {name: office[name] for name in office.names}
        for hands in (
            (), ("bob",), ("eve",), ("any", "bob"), ("bob", "bob"), ("zoe",), ("any", "bob", "eve"), (1, "eve"),
        ):
            alone = {n: i for n, i in items.items() if not isinstance(i, Shift) or i.hand in hands}
            rest = {n: i for n, i in items.items() if not isinstance(i, Shift) or i.hand not in hands}
            self.assert_office(office.with_hands(*hands), 3, "abc", alone)
            self.assert_office(office.without_hands(*hands), 3, "abc", rest)
            self.assert_office(office, 3, "abc", items)

    def test_any_hands(self):
        office = wide()
        self.assertTrue(office.with_hands(*any_values()) == office.with_hands())
        self.assertTrue(office.without_hands(*any_values()) == office)
        self.assertTrue(office.without_hands(["bob"], ("bob",), {"bob": 1}) == office)

    def test_with_looks(self):
        office = wide()
        items = {name: office[name] for name in office.names}
        for looks, more in (
            ((), {}), (((1, "seeb"),), {}), (((0, "seeb"),), {"seeb": Count("b", 0, 1)}),
            (((2, "seeb"), (0, "seeb"), (2, "seeb")), {"seeb": Count("b", 0, 1, 2)}),
            (((2, "all"), (0, "match")), {"all": Total(list("abc"), 0, 1, 2), "match": Match(["a"], ["c"], 0, 2)}),
        ):
            self.assert_office(office.with_looks(*looks), 3, "abc", {**items, **more})
            self.assert_office(office, 3, "abc", items)

    def test_no_look(self):
        office = wide()
        wrong = any_values() + [
            (3, "seeb"), (-1, "seeb"), (True, "seeb"), (Amount(0), "seeb"), ("0", "seeb"), (None, "seeb"), (0, "up"),
            (0, "other"), (0, ""), (0, None), (0, ["seeb"]), [0, "seeb"], (0,), (0, "seeb", 1), ("seeb", 0),
            (0, ("seeb",)),
        ]
        for value in wrong:
            self.assert_unchanged(BadLook(0), office, office.with_looks, value)
            self.assert_unchanged(BadLook(2), office, office.with_looks, (0, "seeb"), (0, "all"), value, (9, 9))

    def test_too_many_looks(self):
        office = make(5, "ab", {"x": Count("a", 0, 1, 2, 3), "y": Count("b", 0, 1, 2, 3), "z": Total(["a"], 0, 1)})
        looks = [(4, "x"), (4, "y"), (4, "z")]
        self.assertEqual(len(office.with_looks(*looks[:2]).looks), 12)
        self.assertEqual(len(office.with_looks(*looks[:2], *office.looks).looks), 12)
        self.assert_unchanged(TooMany("looks", 12), office, office.with_looks, *looks)
        self.assert_unchanged(BadLook(3), office, office.with_looks, *looks, (5, "x"))


if __name__ == "__main__":
    unittest.main()
