"""The promises of point [8] and under holeshift/weights.py."""

import unittest

from holeshift.amounts import Amount
from holeshift.errors import BadDay
from holeshift.gaps import Gaps
from holeshift.prices import price
from holeshift.weights import Weights
from tests.definitions import amount, fraction, offices, prices, ring, told
from tests.helper import Case, any_values, not_ints

HALF = Amount(1, 2)


def pair_weights():
    """The weights that the document tells of the ring."""
    ends = (("seea", Amount(0)), ("seeb", Amount(1)))
    return Weights(ends, (((0, "seea"), Amount(-2)), ((1, "seeb"), Amount(-2))))


def papers():
    """Weights of the form for each of some offices."""
    for office in offices():
        yield office, price(office).weights
        ends = tuple((name, Amount(at - 1, at + 2)) for at, name in enumerate(office.checks))
        yield office, Weights(ends, tuple((look, Amount(2 - at, 3)) for at, look in enumerate(office.looks)))


class TestWeights(Case):
    def test_defined_here(self):
        self.assert_defines(Weights, ["__init__", "prices", "worth", "__eq__"])
        self.assertEqual(Weights.__module__, "holeshift.weights")

    def test_keeps_any_values(self):
        for value in any_values():
            for other in (None, value, [value]):
                weights = Weights(value, other)
                self.assertIs(weights.ends, value)
                self.assertIs(weights.looks, other)
        weights = Weights(looks=1, ends=2)
        self.assert_same([weights.ends, weights.looks], [2, 1])

    def test_the_prices_that_the_document_tells(self):
        office, weights = ring(), pair_weights()
        found = [weights.prices(office, day) for day in range(3)]
        wanted = [{"a": 0, "b": 1}, {"a": 2, "b": 1}, {"a": 2, "b": 3}]
        self.assert_same(found, [{name: Amount(number) for name, number in of.items()} for of in wanted])

    def test_prices(self):
        for office, weights in papers():
            for day in range(office.days + 1):
                wanted = {account: amount(number) for account, number in prices(office, weights, day).items()}
                found = weights.prices(office, day)
                self.assertEqual(sorted(found), sorted(wanted))
                self.assert_same([found[account] for account in office.accounts], list(wanted.values()))
                self.assertIs(type(found), dict)
        found = weights.prices(office=office, day=0)
        found.clear()
        self.assertTrue(weights.prices(office, 0))

    def test_no_day(self):
        for value in not_ints(0, 2):
            self.assertIs(self.assert_raises(BadDay(value), pair_weights().prices, ring(), value).value, value)

    def test_worth(self):
        self.assert_same(pair_weights().worth(ring(), Gaps({"a": 5, "b": HALF})), HALF)
        for office, weights in papers():
            for values in ({}, {"a": 1}, {"a": Amount(-7, 3)}):
                gaps = Gaps({**values, office.accounts[-1]: HALF})
                at = prices(office, weights, 0)
                wanted = amount(sum(at[account] * gap for account, gap in told(office, gaps).items()))
                self.assert_same(weights.worth(office=office, gaps=gaps), wanted)
                seen = [fraction(end) * fraction(office[name].sum_of(gaps)) for name, end in weights.ends]
                self.assert_same(wanted, amount(sum(seen)))

    def test_equals(self):
        one = pair_weights()
        self.assertTrue(one == pair_weights())
        for other in (
            Weights(one.ends[:1], one.looks), Weights(one.ends, one.looks[1:]), Weights(one.looks, one.ends),
            Weights((("seea", Amount(0)), ("seeb", HALF)), one.looks), Weights(one.ends[::-1], one.looks),
            Weights(one.ends, (((0, "seea"), Amount(-2)), ((1, "seeb"), Amount(-1)))), Weights(None, None),
        ):
            self.assert_same([one == other, other == one, one != other], [False, False, True])
        for value in any_values() + [one.ends, (one.ends, one.looks)]:
            self.assert_same([one == value, value == one], [False, False])
            self.assertTrue(Weights(value, [value]) == Weights(value, [value]))


if __name__ == "__main__":
    unittest.main()
