"""The promises of the points [4] and [5] and under holeshift/items.py."""

import itertools
import unittest

from holeshift.amounts import Amount
from holeshift.errors import BadDay, BadItem, BadName, BadText, Clash
from holeshift.gaps import Gaps
from holeshift.items import Check, Count, Item, Match, Shift, Total
from holeshift.linear import Dated, Linear
from tests.helper import Case, any_values, not_ints

NO_NAMES = ["", "abcdefghi", "A", "a1", "a b", 1, 0, True, None, (), ("a",), ["a"]]
FIVE = {"a": 1, "b": 2, "c": 3, "d": 3, "e": -9}


def samples():
    """Items of all classes, no two equal."""
    return [
        Shift({"a": -1, "b": 1}), Shift({"a": -1, "b": 1}, 0), Shift({"a": -1, "b": 1}, 0, 2), Shift({"a": 1, "b": -1}),
        Shift({"a": -1, "b": 1}, weight=2), Shift({"a": -1, "b": 1}, hand="bob"), Shift({"a": -1, "c": 1}),
        Shift({"a": -2, "b": 2}), Shift(FIVE, 4, weight=100, hand="zzzzzzzz"), Count("a", 0), Count("a", 1),
        Count("b", 0), Count("a", 0, 1), Total(["a"], 0), Total(["a", "b"], 0), Total(("b", "c", "a"), 4, 0),
        Total(list("abcde"), 0), Match(["a"], ["b"], 0), Match(["b"], ["a"], 0), Match(("c", "a"), ["b"], 2, 0),
        Match(list("abcde"), list("fghij"), 1),
    ]


def shape(item):
    """All that an item is made of."""
    parts = {account: item[account] for account in item.accounts}
    weight, hand = (item.weight, item.hand) if isinstance(item, Shift) else (None, None)
    return type(item).__name__, parts, item.days, weight, hand


class ItemCase(Case):
    def assert_item(self, item, name, parts, days, weight=None, hand=None):
        self.assert_same(shape(item), (name, dict(sorted(parts.items())), days, weight, hand))


class TestClasses(Case):
    def test_bases(self):
        for name, base in ((Shift, Item), (Check, Item), (Count, Check), (Total, Check), (Match, Check)):
            self.assertEqual(name.__bases__, (base,))
            self.assertEqual(name.__module__, "holeshift.items")
        self.assertEqual(Item.__bases__, (Linear, Dated))

    def test_defined_here(self):
        self.assert_defines(Item, ["renamed", "begun_at", "repeated", "__eq__", "__str__", "read"])
        self.assertIsInstance(vars(Item)["read"], classmethod)
        self.assert_defines(Shift, ["__init__", "__mul__"])
        for name in ("weight", "hand", "changes"):
            self.assertIsInstance(vars(Shift)[name], property)
        for owner in (Count, Total, Match):
            self.assert_defines(owner, ["__init__", "__call__"])


class TestShift(ItemCase):
    def test_made(self):
        self.assert_item(Shift({"b": 1, "a": -1}), "Shift", {"a": -1, "b": 1}, (), 1, "any")
        self.assert_item(Shift(FIVE, 4, 0, 4, weight=100, hand="z"), "Shift", FIVE, (0, 4), 100, "z")
        self.assert_item(Shift({"a": 9, "b": -9}, 3, hand="h", weight=1), "Shift", {"a": 9, "b": -9}, (3,), 1, "h")
        self.assert_item(Shift({"a": 4, "b": -3, "c": -1}), "Shift", {"a": 4, "b": -3, "c": -1}, (), 1, "any")
        self.assertTrue(Shift({"a": -1, "b": 1}).is_daily and not Shift({"a": -1, "b": 1}, 0).is_daily)

    def test_no_changes(self):
        wrong = any_values() + [
            {}, {"a": 1}, {"a": 0}, {"a": 1, "b": 1}, {"a": -1, "b": 2}, {"a": 0, "b": 0}, {"a": 1, "b": -1, "c": 0},
            {"a": 10, "b": -10}, {"A": 1, "b": -1}, {1: 1, "b": -1}, {"a": True, "b": -1}, {"a": Amount(1), "b": -1},
            {"a": "1", "b": -1}, {"a": 1, "b": -1, "c": None}, {"a": [1], "b": [-1]},
            {"a": 1, "b": 1, "c": 1, "d": 1, "e": 1, "f": -5}, [("a", 1), ("b", -1)], (("a", 1), ("b", -1)),
        ]
        for value in wrong:
            self.assert_raises(BadItem("changes"), Shift, value)
            self.assert_raises(BadItem("changes"), Shift, value, 5, weight=0, hand="")

    def test_no_day(self):
        for value in not_ints(0, 4):
            error = self.assert_raises(BadDay(value), Shift, {"a": 1, "b": -1}, 0, value, weight=None, hand=None)
            self.assertIs(error.value, value)

    def test_no_weight(self):
        for value in not_ints(1, 100) + [0, 101]:
            self.assert_raises(BadItem("weight"), Shift, {"a": 1, "b": -1}, weight=value)
            self.assert_raises(BadItem("weight"), Shift, {"a": 1, "b": -1}, 0, weight=value, hand=None)

    def test_no_hand(self):
        for value in any_values() + NO_NAMES:
            if value not in ("a", "none"):
                self.assert_raises(BadItem("hand"), Shift, {"a": 1, "b": -1}, hand=value)

    def test_changes_are_a_new_dict(self):
        told = {"a": -1, "b": 1}
        shift = Shift(told)
        told["a"] = 5
        for _ in range(2):
            found = shift.changes
            self.assertIs(type(found), dict)
            self.assertEqual(found, {"a": -1, "b": 1})
            found["a"], found["c"] = 7, 8
        self.assertEqual(str(shift), "shift a:-1,b:1 - 1 any")

    def test_times(self):
        shift = Shift({"a": -2, "b": 1, "c": 1}, 3, weight=20, hand="bob")
        self.assert_item(shift * 1, "Shift", {"a": -2, "b": 1, "c": 1}, (3,), 20, "bob")
        self.assert_item(shift * 4, "Shift", {"a": -8, "b": 4, "c": 4}, (3,), 80, "bob")
        self.assert_item(Shift({"a": 1, "b": -1}, weight=10) * 9, "Shift", {"a": 9, "b": -9}, (), 90, "any")
        self.assert_item(shift, "Shift", {"a": -2, "b": 1, "c": 1}, (3,), 20, "bob")
        self.assert_raises(BadItem("changes"), lambda: shift * 5)
        self.assert_raises(BadItem("changes"), lambda: shift * 10 ** 59)
        self.assert_raises(BadItem("changes"), lambda: Shift({"a": 5, "b": -5}, weight=100) * 2)
        self.assert_raises(BadItem("weight"), lambda: Shift({"a": 4, "b": -4}, weight=51) * 2)
        self.assert_item(Shift({"a": 4, "b": -4}, weight=50) * 2, "Shift", {"a": 8, "b": -8}, (), 100, "any")


class TestChecks(ItemCase):
    def test_made(self):
        self.assert_item(Count("a", 0), "Count", {"a": 1}, (0,))
        self.assert_item(Count("zzzzzzzz", 4, 0, 4), "Count", {"zzzzzzzz": 1}, (0, 4))
        self.assert_item(Total(["b", "a"], 3), "Total", {"a": 1, "b": 1}, (3,))
        self.assert_item(Total(tuple("edcba"), 3, 1), "Total", dict.fromkeys("abcde", 1), (1, 3))
        self.assert_item(Match(["c", "a"], ("b",), 2, 0), "Match", {"a": 1, "b": -1, "c": 1}, (0, 2))
        self.assert_item(
            Match(list("ajcbd"), tuple("fghie"), 0), "Match",
            {**dict.fromkeys("ajcbd", 1), **dict.fromkeys("efghi", -1)}, (0,),
        )

    def wrong_accounts(self):
        return any_values() + [
            [], (), "a", "ab", {"a": 1}, ["a", "a"], ("b", "a", "b"), list("abcdef"), ["A"], ["a", ""], ["a", 1],
            ["a", None], ["a", True], ("a", ("b",)), [["a"]], ["a", "abcdefghi"],
        ]

    def right_accounts(self, value):
        return isinstance(value, (list, tuple)) and list(value) in (["a"], ["none"])

    def test_no_account(self):
        for value in any_values() + NO_NAMES:
            if value not in ("a", "none"):
                self.assert_raises(BadItem("account"), Count, value, 0)
                self.assert_raises(BadItem("account"), Count, value, 9)
                self.assert_raises(BadItem("account"), Count, value)

    def test_no_accounts(self):
        for value in self.wrong_accounts():
            if not self.right_accounts(value):
                self.assert_raises(BadItem("accounts"), Total, value, 0)
                self.assert_raises(BadItem("accounts"), Total, value, None)
                self.assert_raises(BadItem("left"), Match, value, value, 0)
                self.assert_raises(BadItem("left"), Match, value, ["a"], 5)
                self.assert_raises(BadItem("right"), Match, ["m"], value, 0)
                self.assert_raises(BadItem("right"), Match, ("m",), value)

    def test_account_on_both_sides(self):
        for left, right in ((["a"], ["a"]), (["a", "b"], ["c", "b"]), (("b",), ("a", "b")), (["a"], list("bcdea"))):
            self.assert_raises(BadItem("right"), Match, left, right, 0)
            self.assert_raises(BadItem("right"), Match, left, right, 7)

    def test_no_day(self):
        for value in not_ints(0, 4):
            for made in (Count, Total):
                accounts = "a" if made is Count else ["a"]
                self.assertIs(self.assert_raises(BadDay(value), made, accounts, value).value, value)
                self.assert_raises(BadDay(value), made, accounts, 1, value, 8)
            self.assert_raises(BadDay(value), Match, ["a"], ["b"], 4, value)

    def test_no_days(self):
        self.assert_raises(BadItem("days"), Count, "a")
        self.assert_raises(BadItem("days"), Total, ["a"])
        self.assert_raises(BadItem("days"), Match, ["a"], ["b"])

    def test_later_changes_of_the_list(self):
        accounts, left, right = ["b", "a"], ["c"], ["d"]
        total, match = Total(accounts, 0), Match(left, right, 0)
        for value in (accounts, left, right):
            value.append("z")
        self.assert_same([str(total), str(match)], ["total a,b 0", "match c d 0"])
        self.assert_same([accounts, left, right], [["b", "a", "z"], ["c", "z"], ["d", "z"]])

    def test_what_a_check_sees(self):
        gaps = Gaps({"a": 3, "b": Amount(-1, 2), "c": 10 ** 30 - 1})
        for check, wanted in (
            (Count("a", 0), Amount(3)), (Count("d", 0), Amount(0)), (Total(["a", "b"], 0), Amount(5, 2)),
            (Match(["a"], ["b"], 0), Amount(7, 2)), (Match(["b"], ["a", "d"], 0), Amount(-7, 2)),
            (Match(["c"], ["a"], 1), Amount(10 ** 30 - 4)),
        ):
            self.assert_same([check(gaps), check.sum_of(gaps), check(gaps=gaps)], [wanted] * 3)

    def test_names_of_parameters(self):
        self.assert_raises(BadItem("days"), Count, account="a")
        self.assert_raises(BadItem("days"), Total, accounts=["a"])
        self.assert_raises(BadItem("days"), Match, left=["a"], right=["b"])
        self.assertEqual(Shift(changes={"a": 1, "b": -1}), Shift({"a": 1, "b": -1}))


class TestOtherItems(ItemCase):
    def test_renamed(self):
        for item in samples():
            before = shape(item)
            name, parts, days, weight, hand = before
            for names in ({}, {"a": "x"}, {"a": "b", "b": "a"}, {"a": "m", "c": "a", "q": "b"}, {"z": 1, "y": "Z"}):
                wanted = {names.get(account, account): part for account, part in parts.items()}
                kept = dict(names)
                if len(wanted) < len(parts):
                    continue
                self.assert_item(item.renamed(names), name, wanted, days, weight, hand)
                self.assert_same([shape(item), names], [before, kept])
        self.assertEqual(Count("a", 0).renamed(names={"a": "b"}), Count("b", 0))

    def test_renamed_to_no_name(self):
        for value in any_values() + NO_NAMES:
            if value in ("a", "none"):
                continue
            names = {"a": "b", "b": value, "c": "", "d": 7}
            for item in (Shift({"a": 1, "b": 1, "c": -2}), Total(["c", "b", "a"], 0), Match(["c"], ["b"], 0)):
                self.assertIs(self.assert_raises(BadName(value), item.renamed, names).value, value)
            self.assertEqual(Count("a", 0).renamed(names), Count("b", 0))

    def test_renamed_to_one_name(self):
        for names, clash in (
            ({"a": "b"}, "b"), ({"a": "x", "b": "x"}, "x"), ({"a": "c", "b": "d", "e": "d"}, "c"),
            ({"b": "a", "c": "d"}, "a"), ({"a": "z", "b": "z", "c": "y", "d": "y"}, "y"),
        ):
            for item in (Shift(FIVE), Total(list("abcde"), 0), Match(["a", "c", "e"], ["b", "d"], 0)):
                self.assert_raises(Clash(clash), item.renamed, names)

    def test_begun_at(self):
        for item in samples():
            before = shape(item)
            name, parts, days, weight, hand = before
            for long in range(max(days, default=0) + 1, 6):
                for day in (0, 1, 2, 4, 5, 6, -1, -7, 10 ** 59, -10 ** 59):
                    wanted = tuple(sorted((own - day) % long for own in days))
                    self.assert_item(item.begun_at(day, long), name, parts, wanted, weight, hand)
                    self.assert_same(shape(item), before)
        self.assertEqual(Count("a", 0).begun_at(day=1, days=3), Count("a", 2))

    def test_repeated(self):
        for item in samples():
            before = shape(item)
            name, parts, days, weight, hand = before
            for long in range(max(days, default=0) + 1, 6):
                for k in (1, 2, 3, 4, 5, 6, 7, 50):
                    wanted = sorted(own + at * long for own in days for at in range(k))
                    above = [day for day in wanted if day > 4]
                    if above:
                        self.assert_raises(BadDay(above[0]), item.repeated, k, long)
                    else:
                        self.assert_item(item.repeated(k, long), name, parts, tuple(wanted), weight, hand)
                    self.assert_same(shape(item), before)
        self.assert_raises(BadDay(5), Count("a", 0).repeated, 10 ** 59, 1)
        self.assert_raises(BadDay(6), Count("a", 0, 1).repeated, 10 ** 59, 3)
        self.assertEqual(Shift({"a": 1, "b": -1}).repeated(k=10 ** 59, days=2), Shift({"a": 1, "b": -1}))

    def test_equals(self):
        for (at, one), (place, other) in itertools.product(enumerate(samples()), enumerate(samples())):
            self.assert_same([one == other, one != other], [at == place, at != place])
        self.assertTrue(Shift({"b": 1, "a": -1}, 3, 0, 3) == Shift({"a": -1, "b": 1}, 0, 3, weight=1, hand="any"))
        self.assertTrue(Total(("b", "a"), 0) == Total(["a", "b"], 0))

    def test_equals_nothing_else(self):
        for item in samples():
            for value in any_values() + [str(item), Linear({account: item[account] for account in item.accounts})]:
                if not isinstance(value, Item):
                    self.assert_same([item == value, value == item, item != value], [False, False, True])


class TestTexts(ItemCase):
    TEXTS = [
        "shift a:-1,b:1 - 1 any", "shift a:-1,b:1 0 1 any", "shift a:1,b:2,c:3,d:3,e:-9 0,4 100 zzzzzzzz",
        "shift aa:9,b:-9 0,1,2,3,4 10 h", "count a 0", "count zzzzzzzz 0,1,2,3,4", "total a 0", "total a,aa,b 1,3",
        "total a,b,c,d,e 4", "match a b 0", "match b a 0,2", "match a,c,e,g,i b,d,f,h,j 3", "count shift 0",
        "shift any:-2,shift:2 - 99 shift", "total total 0",
    ]

    def test_read(self):
        for text in self.TEXTS:
            self.assert_same(str(Item.read(text)), text)
        for item in samples():
            self.assert_same(shape(Item.read(str(item))), shape(item))
        self.assertEqual(Item.read(text="count a 0"), Count("a", 0))

    def test_text(self):
        self.assert_same(str(Shift({"b": 1, "a": -1}, 2, 0, weight=7, hand="bob")), "shift a:-1,b:1 0,2 7 bob")
        self.assert_same(str(Match(["c", "a"], ("d", "b"), 2, 0)), "match a,c b,d 0,2")
        self.assert_same([str(Count("a", 1)), str(Total(["b", "a"], 1))], ["count a 1", "total a,b 1"])

    def test_no_text(self):
        for text, word in (
            ("", 0), (" ", 0), ("shift", 1), ("count", 1), ("total", 1), ("match", 1), ("Count a 0", 0),
            (" count a 0", 0),
            ("count  a 0", 1), ("count a", 2), ("count a ", 2), ("count a 0 ", 3), ("count a 0 1", 3), ("count a -", 2),
            ("count A 0", 1), ("count a,b 0", 1), ("count abcdefghi 0", 1), ("count a 5", 2), ("count a 00", 2),
            ("count a 0,0", 2), ("count a 1,0", 2), ("count a 0,", 2), ("count a ,0", 2), ("count a 0, 1", 2),
            ("count a +1", 2), ("count a -1", 2), ("count a 0,5", 2), ("count a 0\n", 2), ("count\na 0", 0),
            ("total a 0 0", 3), ("total b,a 0", 1), ("total a,a 0", 1), ("total a,,b 0", 1), ("total a, 0", 1),
            ("total a,b,c,d,e,f 0", 1), ("total a,B 0", 1), ("total a,b -", 2), ("total a,b", 2), ("total - 0", 1),
            ("match a", 2), ("match a b", 3), ("match a b 0 0", 4), ("match a b -", 3), ("match a a 0", 2),
            ("match a,b b,c 0", 2), ("match b,a c 0", 1), ("match a c,b 0", 2), ("match a a x", 2), ("match a  0", 2),
            ("match a 0", 2), ("match a b,b 0", 2), ("match a b,c,d,e,f,g 0", 2), ("match a b 2,1", 3),
            ("shift a:-1,b:1", 2), ("shift a:-1,b:1 -", 3), ("shift a:-1,b:1 - 1", 4), ("shift a:-1,b:1 - 1 any 1", 5),
            ("shift a:-1,b:1 - 1 any ", 5), ("shift a:-1,b:1 - 1 Any", 4), ("shift a:-1,b:1 - 0 any", 3),
            ("shift a:-1,b:1 - 101 any", 3), ("shift a:-1,b:1 - 01 any", 3), ("shift a:-1,b:1 - +1 any", 3),
            ("shift a:-1,b:1 - -1 any", 3), ("shift a:-1,b:1 - 1/2 any", 3), ("shift a:-1,b:1  1 any", 2),
            ("shift a:-1,b:1 -,0 1 any", 2), ("shift a:-1,b:1 1,0 1 any", 2), ("shift a:-1,b:1 5 1 any", 2),
            ("shift b:1,a:-1 - 1 any", 1), ("shift a:-1,a:1 - 1 any", 1), ("shift a:-1,a:1,b:-1 - 1 any", 1),
            ("shift a:-1,b:2 - 1 any", 1), ("shift a:0,b:0 - 1 any", 1), ("shift a:-1,b:1,c:0 - 1 any", 1),
            ("shift a:-1,b:+1 - 1 any", 1), ("shift a:-01,b:1 - 1 any", 1), ("shift a:-10,b:10 - 1 any", 1),
            ("shift a:1 - 1 any", 1), ("shift a:-1,b:1, - 1 any", 1), ("shift a:-1,,b:1 - 1 any", 1),
            ("shift a:-1b:1 - 1 any", 1), ("shift a-1,b:1 - 1 any", 1), ("shift a:-1:,b:1 - 1 any", 1),
            ("shift A:-1,b:1 - 1 any", 1), ("shift :-1,b:1 - 1 any", 1), ("shift a:--1,b:1 - 1 any", 1),
            ("shift a:1,b:1,c:1,d:1,e:1,f:-5 - 1 any", 1), ("shift - - 1 any", 1), ("shift a:-1,b:2 9 0 A A", 1),
            ("item a 0", 0), ("0", 0), ("-", 0), ("linear a:1", 0),
        ):
            self.assert_raises(BadText(0, word), Item.read, text)

    def test_no_other_text_is_read(self):
        # Whatever is read from a text with one sign or word more, less or otherwise has just this text.
        signs = [" ", ",", ":", "-", "0", "1", "a", "\n", ""]
        for text in self.TEXTS:
            words = text.split(" ")
            places = [(at, sign, cut) for at in range(len(text) + 1) for sign in signs for cut in (0, 1)]
            changed = [text[:at] + sign + text[at + cut:] for at, sign, cut in places]
            for at in range(len(words)):
                changed.append(" ".join(words[:at] + words[at + 1:]))
                changed.append(" ".join(words[:at] + words[at:at + 1] + words[at:]))
                for place in range(at):
                    others = list(words)
                    others[at], others[place] = words[place], words[at]
                    changed.append(" ".join(others))
            for other in changed:
                try:
                    self.assert_same(str(Item.read(other)), other)
                except BadText as error:
                    self.assertEqual(error.line, 0)
                    self.assertLessEqual(error.word, len(other.split(" ")))
                    self.assertNotIn(other, self.TEXTS)

    def test_any_value(self):
        for value in any_values():
            self.assert_raises(BadText(0, 0), Item.read, value)


if __name__ == "__main__":
    unittest.main()
