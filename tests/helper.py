"""What several tests use."""

import os
import unittest

from holeshift import errors
from holeshift.amounts import Amount
from holeshift.gaps import Gaps
from holeshift.items import Count, Match, Shift, Total
from holeshift.linear import Dated, Linear
from holeshift.offices import Office
from holeshift.rows import Row

ROOT = os.path.dirname(os.path.dirname(os.path.abspath(__file__)))
PACKAGE = os.path.join(ROOT, "holeshift")
DOC = os.path.join(os.path.dirname(ROOT), "shared", "DOC.md")

NO_INTEGERS = [
    None, True, False, "", "a", "none", "1", "1/2", "0", " ", "a b\nc", "x" * 2000, (), (1,), ("a", 1), [], [1], ["a"],
    {}, {"a": 1}, {1: 2}, [[[[[[[[1]]]]]]]], ({"a": [None, (True,)]},), errors.BadName(1), errors.NoDeed(),
]
INTEGERS = [0, 1, -1, 2, 200, -7, 10 ** 29, 10 ** 60 - 1, 1 - 10 ** 60]


def any_values():
    """Values of all kinds that the document calls any value."""
    amounts = [Amount(0), Amount(1), Amount(-1, 2), Amount(10 ** 29 + 1, 3 ** 60)]
    gaps = [Gaps(), Gaps({"a": 1, "b": Amount(-1, 2)})]
    items = [Shift({"a": 1, "b": -1}, 0), Count("a", 0), Total(["a", "b"], 1), Match(["a"], ["b"], 0)]
    office = Office(2, "a", "b")
    office["a"], office["c"] = items[:2]
    others = [Linear({}), Linear({"a": 1}), Dated(), Dated(0), office, Row(office, 3, [(0, "a", 1)])]
    return NO_INTEGERS + INTEGERS + amounts + gaps + items + others


def not_ints(least, most=None):
    """Any values but the integers from the least one on, to the most one if it is told."""
    known = range(least, 10 ** 70 if most is None else most + 1)
    found = [value for value in any_values() if type(value) is not int or value not in known]
    return found + [least - 1, Amount(least), str(least)] + ([] if most is None else [most + 1])


def same(one, other):
    """Whether two values are equal, kinds and all: True is not 1, and a list is not a tuple."""
    if type(one) is not type(other):
        return False
    if isinstance(one, (list, tuple)):
        return len(one) == len(other) and all(same(a, b) for a, b in zip(one, other))
    if isinstance(one, dict):
        return same(list(one), list(other)) and all(same(one[key], other[key]) for key in one)
    if isinstance(one, BaseException):
        return vars(one).keys() == vars(other).keys() and all(same(vars(one)[k], vars(other)[k]) for k in vars(one))
    return one == other


class Untouchable:
    """A value that must not be looked at."""

    def __getattribute__(self, name):
        raise AssertionError(f"looked at: {name}")

    def __eq__(self, other):
        raise AssertionError("compared")

    def __str__(self):
        raise AssertionError("shown")

    def __bool__(self):
        raise AssertionError("tested")

    __repr__ = __hash__ = __len__ = __iter__ = __str__


class Case(unittest.TestCase):
    """A test case with the comparisons that the document asks for."""

    def assert_same(self, found, wanted):
        self.assertTrue(same(found, wanted), f"{found!r} is not {wanted!r}")

    def assert_raises(self, wanted, work, *args, **named):
        """The work raises an error of just this class, with just these fields."""
        try:
            work(*args, **named)
        except errors.ShiftError as error:
            self.assertTrue(same(error, wanted), f"{error!r} is not {wanted!r}")
            return error
        self.fail(f"did not raise {wanted!r}")

    def assert_defines(self, owner, names):
        """A class has these methods in its own body."""
        for name in names:
            self.assertIn(name, vars(owner))

    def assert_alike_themselves_alone(self, papers):
        """Each of these papers equals itself, none of the others, and no other value."""
        for at, one in enumerate(papers):
            for place, other in enumerate(papers):
                self.assert_same([one == other, one != other], [at == place, at != place])
                self.assertIs(one.__eq__(other), at == place)
            for value in any_values():
                self.assert_same([one == value, value == one], [False, False])
