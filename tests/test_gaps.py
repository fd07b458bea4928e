"""The promises of point [3] and under holeshift/gaps.py."""

import unittest

from holeshift.amounts import Amount
from holeshift.errors import BadAmount, BadGaps, BadName, BadText, NoDeed, NoDivisor
from holeshift.gaps import Gaps
from holeshift.items import Shift
from tests.helper import NO_INTEGERS, Case, any_values

BIG = 10 ** 30 - 1
METHODS = [
    "__init__", "__getitem__", "__contains__", "__len__", "__add__", "__iadd__", "__sub__", "__isub__", "__mul__",
    "__rmul__", "__imul__", "__neg__", "__eq__", "__str__", "over", "behind",
]
TOLD = [
    {}, {"a": 1}, {"a": -1}, {"b": 2, "a": Amount(-1, 2)}, {"a": Amount(1, 3), "c": 5, "zzzzzzzz": Amount(-7, 4)},
    {"b": BIG, "none": Amount(1, BIG), "a": -BIG}, {"a": Amount(1, 2), "b": -2},
]
NUMBERS = [0, 1, -1, 3, BIG, Amount(0), Amount(1, 2), Amount(-7, 3), Amount(1, BIG)]
ACCOUNTS = ["a", "b", "c", "none", "zzzzzzzz", "other"]


def gap(told, account):
    return Amount.of(told.get(account, 0))


class GapsCase(Case):
    def assert_gaps(self, found, told):
        """The value is Gaps with just these gaps, in all of its readings."""
        self.assertIs(type(found), Gaps)
        for account in ACCOUNTS:
            self.assert_same(found[account], gap(told, account))
            self.assertIs(account in found, gap(told, account) != 0)
        accounts = tuple(sorted(account for account in told if gap(told, account) != 0))
        self.assert_same(found.accounts, accounts)
        self.assert_same(len(found), len(accounts))
        self.assert_same(found.hole, Amount.total(list(told.values())))
        words = [f"{account} {gap(told, account)}" for account in accounts]
        self.assert_same(str(found), " ".join(words) if words else "none")


class TestMaking(GapsCase):
    def test_defined_here(self):
        self.assert_defines(Gaps, METHODS)
        for name in ("accounts", "hole"):
            self.assertIsInstance(vars(Gaps)[name], property)
        self.assertIsInstance(vars(Gaps)["lone"], staticmethod)
        self.assertIsInstance(vars(Gaps)["read"], classmethod)
        self.assertEqual(Gaps.__module__, "holeshift.gaps")

    def test_told(self):
        for told in TOLD:
            self.assert_gaps(Gaps(told), told)
            self.assert_gaps(Gaps(values=told), told)
        self.assert_gaps(Gaps(), {})
        self.assert_gaps(Gaps(None), {})

    def test_told_as_0(self):
        self.assert_gaps(Gaps({"a": 0, "b": Amount(0), "c": 1}), {"c": 1})
        self.assertTrue(Gaps({"a": 0}) == Gaps())

    def test_no_dict(self):
        for value in any_values():
            if value is not None and not isinstance(value, dict):
                self.assertIs(self.assert_raises(BadGaps(value), Gaps, value).value, value)

    def test_no_name(self):
        for key in ("", "abcdefghi", "A", "a1", "a b", 1, 0, -1, True, None, (), ("a",), (1, "a"), 10 ** 59):
            self.assert_raises(BadName(key), Gaps, {key: 1})
            self.assert_raises(BadName(key), Gaps, {"a": 1, key: None, "b": "x"})
        error = NoDeed()
        self.assertIs(self.assert_raises(BadName(error), Gaps, {"a": 1, "A": 1, error: 2}).value, error)

    def test_the_first_key_that_is_no_name(self):
        self.assert_raises(BadName("Z"), Gaps, {"b": True, "a": 1, "Z": 1})
        self.assert_raises(BadName("A"), Gaps, {"b": 1, "Z": 1, "a b": 1, "A": None})
        self.assert_raises(BadName("a b"), Gaps, {"b c": 1, "z": None, "a b": 1, "a": 1})
        self.assert_raises(BadName(""), Gaps, {"a": 1, "Z": 1, "": 1})
        self.assert_raises(BadName("a" * 9), Gaps, {"a" * 10: 1, "b": 1, "a" * 9: 1})

    def test_a_key_that_is_no_string_comes_first(self):
        for key in (7, None, True, ("A",)):
            self.assert_raises(BadName(key), Gaps, {"": 1, "A": 1, "a": None, key: 1, "zz zz": 1})
        for keys in ((7, None), (None, 7)):
            with self.assertRaises(BadName) as caught:
                Gaps({"": 1, **{key: 1 for key in keys}})
            self.assertIn(caught.exception.value, keys)

    def test_no_number(self):
        for value in any_values():
            if not Amount.is_number(value):
                error = self.assert_raises(BadAmount(value), Gaps, {"c": "y", "b": 1, "a": value})
                self.assertIs(error.value, value)
                self.assert_raises(BadAmount(value), Gaps, {"b": value, "a": 1})

    def test_the_least_account_that_has_no_number(self):
        self.assert_raises(BadAmount("x"), Gaps, {"c": None, "b": "x", "a": 1, "d": True})
        self.assert_raises(BadAmount(True), Gaps, {"b": None, "aa": True, "c": "x"})

    def test_later_changes_of_the_dict(self):
        told = {"a": 1, "b": 2}
        gaps = Gaps(told)
        told["a"], told["c"] = 5, 6
        del told["b"]
        self.assert_gaps(gaps, {"a": 1, "b": 2})
        self.assert_same(told, {"a": 5, "c": 6})

    def test_the_dict_stays(self):
        told = {"b": 0, "a": Amount(1, 2)}
        Gaps(told)
        self.assert_same(told, {"b": 0, "a": Amount(1, 2)})


class TestReadings(GapsCase):
    def test_the_gap_of_no_name(self):
        gaps = Gaps({"a": 1})
        for value in any_values() + ["A", "abcdefghi", "a1", ""]:
            if not isinstance(value, str) or value not in ("a", "none"):
                self.assertIs(self.assert_raises(BadName(value), lambda: gaps[value]).value, value)

    def test_contains_any_value(self):
        gaps = Gaps({"a": 1, "b": 0})
        for value in any_values() + ["b", "A", "aa", "abcdefghi"]:
            self.assertIs(value in gaps, isinstance(value, str) and value == "a")

    def test_not_iterated_over(self):
        with self.assertRaises(TypeError):
            list(Gaps({"a": 1}))

    def test_hole(self):
        self.assert_same(Gaps().hole, Amount(0))
        self.assert_same(Gaps({"a": 2, "b": -2}).hole, Amount(0))
        self.assert_same(Gaps({"a": Amount(1, 2), "b": Amount(1, 3), "c": 1}).hole, Amount(11, 6))

    def test_accounts_are_ascending(self):
        self.assert_same(Gaps({"ba": 1, "z": 1, "b": 1, "aaa": 1, "d": 0}).accounts, ("aaa", "b", "ba", "z"))

    def test_equals(self):
        for at, one in enumerate(TOLD):
            for place, other in enumerate(TOLD):
                self.assert_same([Gaps(one) == Gaps(other), Gaps(one) != Gaps(other)], [at == place, at != place])
        self.assertTrue(Gaps({"a": 1, "b": 2}) == Gaps({"b": Amount(4, 2), "c": 0, "a": Amount(1)}))

    def test_equals_nothing_else(self):
        for gaps in (Gaps(), Gaps({"a": 1})):
            for value in any_values():
                if not isinstance(value, Gaps):
                    self.assert_same([gaps == value, value == gaps, gaps != value], [False, False, True])


class TestOperators(GapsCase):
    def test_sums_and_differences(self):
        for one in TOLD:
            for other in TOLD:
                sums = {account: gap(one, account) + gap(other, account) for account in ACCOUNTS}
                rests = {account: gap(one, account) - gap(other, account) for account in ACCOUNTS}
                self.assert_gaps(Gaps(one) + Gaps(other), sums)
                self.assert_gaps(Gaps(one) - Gaps(other), rests)
                self.assert_gaps(self.add(Gaps(one), Gaps(other)), sums)
                self.assert_gaps(self.subtract(Gaps(one), Gaps(other)), rests)

    def test_products(self):
        for told in TOLD:
            for number in NUMBERS:
                wanted = {account: gap(told, account) * number for account in told}
                self.assert_gaps(Gaps(told) * number, wanted)
                self.assert_gaps(number * Gaps(told), wanted)
                self.assert_gaps(self.multiply(Gaps(told), number), wanted)
            self.assert_gaps(-Gaps(told), {account: -gap(told, account) for account in told})

    def test_a_number_is_multiplied_in_place(self):
        for number in NUMBERS:
            self.assert_gaps(self.multiply(number, Gaps({"a": 2})), {"a": 2 * number})

    def test_over(self):
        for told in TOLD:
            for number in NUMBERS:
                if number == 0:
                    self.assert_raises(NoDivisor(), Gaps(told).over, number)
                else:
                    self.assert_gaps(Gaps(told).over(number), {name: gap(told, name).over(number) for name in told})
        self.assert_gaps(Gaps({"a": 1}).over(number=-2), {"a": Amount(-1, 2)})

    def add(self, one, other):
        one += other
        return one

    def subtract(self, one, other):
        one -= other
        return one

    def multiply(self, one, other):
        one *= other
        return one

    def test_in_place_binds_to_a_new_object(self):
        for work in ("+= other", "-= other", "*= 3", "*= half", "+= empty", "-= empty", "*= 1"):
            names = {"one": Gaps({"a": 1}), "other": Gaps({"b": 2}), "empty": Gaps(), "half": Amount(1, 2)}
            kept = names["one"]
            exec(f"one {work}", names)
            self.assertIsNot(names["one"], kept)
            self.assert_gaps(kept, {"a": 1})
            self.assert_gaps(names["other"], {"b": 2})
            self.assert_same(names["half"], Amount(1, 2))

    def test_nothing_changes(self):
        one, other, number = Gaps({"b": 2, "a": Amount(-1, 2)}), Gaps({"a": Amount(1, 2), "c": 1}), Amount(-2, 3)
        shift = Shift({"a": -1, "b": 1})
        for work in (
            lambda: one + other, lambda: one - other, lambda: one * number, lambda: number * one, lambda: -one,
            lambda: one.over(number), lambda: one == other, lambda: one["a"], lambda: "a" in one, lambda: str(one),
            lambda: one.behind(shift, number), lambda: one.hole, lambda: one.accounts, lambda: len(one),
        ):
            work()
            self.assert_gaps(one, {"b": 2, "a": Amount(-1, 2)})
            self.assert_gaps(other, {"a": Amount(1, 2), "c": 1})
            self.assert_same([number, shift.changes], [Amount(-2, 3), {"a": -1, "b": 1}])

    def test_no_other_operands(self):
        # The document does not promise it, but True must not pass for 1, nor a number for gaps.
        for gaps in (Gaps(), Gaps({"a": 1})):
            for value in NO_INTEGERS + [Gaps(), Gaps({"b": 1})]:
                self.assertRaises(TypeError, lambda: gaps * value)
                self.assertRaises(TypeError, lambda: value * gaps)
            for value in NO_INTEGERS + [0, 1, Amount(1)]:
                for work in (
                    lambda: gaps + value, lambda: value + gaps, lambda: gaps - value, lambda: value - gaps,
                ):
                    self.assertRaises(TypeError, work)


class TestBehind(GapsCase):
    def test_behind(self):
        changes = {"b": -3, "a": 1, "other": 2}
        for told in TOLD:
            for number in NUMBERS:
                wanted = {account: gap(told, account) + number * changes.get(account, 0) for account in ACCOUNTS}
                self.assert_gaps(Gaps(told).behind(Shift(changes, 0, weight=7), number), wanted)

    def test_the_hole_stays(self):
        moved = Gaps({"a": 1}).behind(shift=Shift({"a": -1, "b": 1}), number=1)
        self.assert_gaps(moved, {"b": 1})
        self.assert_same(moved.hole, Amount(1))


class TestLone(GapsCase):
    def test_lone(self):
        self.assert_gaps(Gaps.lone("a"), {"a": 1})
        self.assert_gaps(Gaps.lone(account="b", number=0), {})
        for number in NUMBERS:
            self.assert_gaps(Gaps.lone("none", number), {"none": number})

    def test_errors(self):
        for value in any_values():
            if not isinstance(value, str) or value not in ("a", "none"):
                for number in (1, None, True):
                    self.assertIs(self.assert_raises(BadName(value), Gaps.lone, value, number).value, value)
            if not Amount.is_number(value):
                self.assertIs(self.assert_raises(BadAmount(value), Gaps.lone, "a", value).value, value)


class TestTexts(GapsCase):
    def test_read(self):
        for told in TOLD:
            text = str(Gaps(told))
            self.assert_gaps(Gaps.read(text), told)
        self.assert_gaps(Gaps.read(text="a -1/2 b 2"), {"a": Amount(-1, 2), "b": 2})
        self.assert_gaps(Gaps.read("none"), {})
        self.assert_gaps(Gaps.read("none 2"), {"none": 2})
        self.assert_gaps(Gaps.read("a 1 none -1/3 z 5"), {"a": 1, "none": Amount(-1, 3), "z": 5})

    def test_long_amounts(self):
        nines = "9" * 200
        self.assert_gaps(Gaps.read(f"a {nines} b -1/{nines}"), {"a": int(nines), "b": Amount(-1, int(nines))})
        self.assert_raises(BadText(0, 1), Gaps.read, f"a {nines}9")
        self.assert_raises(BadText(0, 3), Gaps.read, f"a {nines} b 1/{nines}9")

    def test_no_text(self):
        for text, word in (
            ("", 0), (" ", 0), ("a", 1), ("a ", 1), (" a 1", 0), ("a 1 ", 2), ("a  1", 1), ("a 1  b 2", 2),
            ("a 0", 1), ("a 1 b", 3), ("a 1 b 0", 3), ("b 1 a 2", 2), ("a 1 a 1", 2), ("a 1 b 2 ab 3", 4),
            ("A 1", 0), ("abcdefghi 1", 0), ("1 a", 0), ("a b", 1), ("a +1", 1), ("a 2/4", 1), ("a 01", 1),
            ("a 1 b -0", 3), ("a 1 B 2", 2), ("a 1 b x c", 3), ("a 1 b 2 c", 5), ("a 1\nb 2", 1), ("a\n1", 0),
            ("a 1\n", 1), ("none ", 1), (" none", 0), ("none none", 1), ("none 0", 1), ("none 2 a 1", 2),
            ("a 1 none", 3), ("none 1 none 1", 2), ("none\n", 0), ("a 0 B 0", 1), ("b 1 a 0", 2), ("a 1 1", 2),
            ("-", 0), ("0", 0), ("1", 0),
        ):
            self.assert_raises(BadText(0, word), Gaps.read, text)

    def test_any_value(self):
        for value in any_values():
            if not isinstance(value, str):
                self.assert_raises(BadText(0, 0), Gaps.read, value)


if __name__ == "__main__":
    unittest.main()
