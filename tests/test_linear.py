"""The promises under holeshift/linear.py."""

import unittest

from holeshift.amounts import Amount
from holeshift.errors import BadDay, BadItem
from holeshift.gaps import Gaps
from holeshift.items import Count, Match, Shift, Total
from holeshift.linear import Dated, Linear
from tests.helper import Case, any_values, not_ints, same

PARTS = [
    {}, {"a": 1}, {"a": -1}, {"a": 2}, {"b": 1}, {"b": 9, "a": -9}, {"a": 1, "b": 1, "c": 1}, {"zzzzzzzz": 8, "m": -2},
    {letter: at + 1 for at, letter in enumerate("fedcba")}, {"ab": 3, "b": 3, "aa": -3, "a": 1, "ba": 2},
]
ACCOUNTS = ["a", "b", "c", "m", "zzzzzzzz", "aa", "other"]
NO_NAMES = ["", "abcdefghi", "A", "a1", "a b", 1, 0, True, None, (), ("a",)]


class TestLinear(Case):
    def test_defined_here(self):
        names = ["__init__", "__getitem__", "__contains__", "__len__", "sum_of", "__neg__", "__eq__"]
        self.assert_defines(Linear, names)
        self.assertIsInstance(vars(Linear)["accounts"], property)
        self.assert_same([vars(Linear)["MOST"], Linear.MOST, Linear.__module__], [9, 9, "holeshift.linear"])

    def test_readings(self):
        for parts in PARTS:
            linear = Linear(parts)
            self.assert_same(linear.accounts, tuple(sorted(parts)))
            self.assert_same(len(linear), len(parts))
            for account in ACCOUNTS:
                self.assert_same(linear[account], parts.get(account, 0))
                self.assertIs(account in linear, account in parts)
        self.assert_same(Linear(parts={"b": 1}).accounts, ("b",))

    def test_any_value_is_looked_up(self):
        linear = Linear({"a": 3, "none": -2})
        for value in any_values() + NO_NAMES:
            wanted = {"a": 3, "none": -2}.get(value, 0) if type(value) is str else 0
            self.assert_same([linear[value], value in linear], [wanted, wanted != 0])

    def test_no_dict(self):
        for value in any_values():
            if not isinstance(value, dict):
                self.assert_raises(BadItem("parts"), Linear, value)

    def test_no_account(self):
        for key in NO_NAMES:
            self.assert_raises(BadItem("account"), Linear, {key: 1})
            self.assert_raises(BadItem("account"), Linear, {"a": None, "b": 10, key: 1})

    def test_no_part(self):
        for value in not_ints(-9, 9) + [0, 10, -10, Amount(1), True]:
            self.assert_raises(BadItem("part"), Linear, {"a": value})
            self.assert_raises(BadItem("part"), Linear, {"a": 1, "b": value, "c": 2})
        for value in (-9, -1, 1, 9):
            self.assert_same(Linear({"a": value})["a"], value)

    def test_sum_of(self):
        for parts in PARTS:
            for told in (
                {}, {"a": 1}, {"a": Amount(1, 3), "b": -2, "m": 7}, {"other": 5}, {"a": 10 ** 30 - 1, "ab": 1},
            ):
                wanted = Amount.total([parts[name] * Amount.of(told.get(name, 0)) for name in parts])
                self.assert_same(Linear(parts).sum_of(Gaps(told)), wanted)
        self.assert_same(Linear({"a": 2, "b": -1}).sum_of(gaps=Gaps({"a": 1, "b": Amount(1, 2)})), Amount(3, 2))

    def test_negative(self):
        for parts in PARTS:
            linear = Linear(parts)
            self.assertEqual(-linear, Linear({account: -part for account, part in parts.items()}))
            self.assertEqual(linear, Linear(parts))
        for item in (Shift({"a": -1, "b": 1}, 2), Count("a", 0), Total(["a", "b"], 1), Match(["a"], ["b"], 0)):
            self.assertIs(type(-item), Linear)
            self.assertEqual([(-item)[account] for account in "abc"], [-item[account] for account in "abc"])

    def test_equals(self):
        for at, one in enumerate(PARTS):
            for place, other in enumerate(PARTS):
                one_way = Linear(one) == Linear(other), Linear(one) != Linear(other)
                self.assert_same(one_way, (at == place, at != place))
        self.assertTrue(Linear({"a": 1, "b": 2}) == Linear({"b": 2, "a": 1}))

    def test_equals_nothing_else(self):
        values = any_values() + [Shift({"a": 1, "b": -1}), Shift({"a": 1, "b": -1}, 0), Match(["a"], ["b"], 0)]
        for linear in (Linear({"a": 1, "b": -1}), Linear({"a": 1}), Linear({"a": 1, "b": 1}), Linear({})):
            for value in values:
                if type(value) is not Linear:
                    self.assert_same([linear == value, value == linear, linear != value], [False, False, True])
                    self.assertIs(linear.__eq__(value), False)

    def test_later_changes_of_the_dict(self):
        parts = {"b": 1, "a": 2}
        linear = Linear(parts)
        parts["a"], parts["c"] = 5, 6
        self.assertEqual(linear, Linear({"a": 2, "b": 1}))
        self.assert_same(parts, {"b": 1, "a": 5, "c": 6})

    def test_not_iterated_over(self):
        with self.assertRaises(TypeError):
            list(Linear({"a": 1}))


class TestDated(Case):
    def test_defined_here(self):
        self.assert_defines(Dated, ["__init__", "falls_on"])
        for name in ("days", "is_daily"):
            self.assertIsInstance(vars(Dated)[name], property)
        self.assert_same([vars(Dated)["LAST"], Dated.LAST, Dated.__module__], [4, 4, "holeshift.linear"])

    def test_days(self):
        for days, wanted in (
            ((), ()), ((0,), (0,)), ((4,), (4,)), ((3, 0, 3), (0, 3)), ((4, 3, 2, 1, 0), (0, 1, 2, 3, 4)),
            ((1, 1, 1, 1, 1, 1), (1,)), ((2, 4, 2, 0), (0, 2, 4)),
        ):
            dated = Dated(*days)
            self.assert_same([dated.days, dated.is_daily], [wanted, not days])
            for day in range(5):
                self.assertIs(dated.falls_on(day), day in wanted or not days)

    def test_falls_on_any_value(self):
        for dated in (Dated(), Dated(0, 1, 2, 3, 4), Dated(1), Dated(0, 2)):
            for value in any_values() + [5, -1, 10 ** 59, Amount(1), "1", (1,)]:
                wanted = type(value) is int and 0 <= value <= 4 and (not dated.days or value in dated.days)
                self.assertIs(dated.falls_on(day=value), wanted)

    def test_no_day(self):
        for value in not_ints(0, 4):
            self.assertIs(self.assert_raises(BadDay(value), Dated, value).value, value)
            self.assert_raises(BadDay(value), Dated, 0, 4, value, 9, None)
        self.assert_raises(BadDay(5), Dated, 0, 5)

    def test_equals_no_other(self):
        for value in any_values():
            self.assert_same([Dated(0) == value, value == Dated(0)], [False, False])


class TestHelper(unittest.TestCase):
    def test_same(self):
        self.assertFalse(same(1, True) or same([1], (1,)) or same(Amount(1), 1) or same((1, [True]), (1, [1])))
        self.assertTrue(same((1, [True, {"a": Amount(2)}]), (1, [True, {"a": Amount(4, 2)}])))


if __name__ == "__main__":
    unittest.main()
