"""The promises of point [2] on numbers and under holeshift/amounts.py."""

import unittest
from fractions import Fraction

from holeshift.amounts import Amount
from holeshift.errors import BadAmount, BadText, NoDivisor
from holeshift.gaps import Gaps
from tests.helper import INTEGERS, NO_INTEGERS, Case, any_values

BIG = 10 ** 30 - 1
PARTS = [0, 1, -1, 2, -3, 6, 7, 10 ** 29, BIG, -BIG]
PAIRS = [
    (0, 1), (1, 1), (-1, 1), (3, 1), (-4, 1), (1, 2), (-1, 2), (7, 3), (-7, 3), (5, 6), (BIG, 1), (-BIG, 1),
    (BIG, 10 ** 29), (1, BIG), (-1, BIG),
]
WHOLE = [0, 1, -1, 2, -3, 12, BIG, -BIG]
METHODS = [
    "__init__", "__add__", "__radd__", "__iadd__", "__sub__", "__rsub__", "__isub__", "__mul__", "__rmul__",
    "__imul__", "__floordiv__", "__rfloordiv__", "__ifloordiv__", "__mod__", "__rmod__", "__imod__", "__neg__",
    "__abs__", "__lt__", "__le__", "__gt__", "__ge__", "__eq__", "__bool__", "__str__", "over",
]


def fraction(number):
    return Fraction(number.top, number.bottom) if isinstance(number, Amount) else Fraction(number)


def operands():
    """Pairs of numbers, at least one of them an Amount, on either side."""
    amounts = [Amount(top, bottom) for top, bottom in PAIRS]
    found = [(one, other) for one in amounts for other in amounts + WHOLE]
    return found + [(one, other) for one in WHOLE for other in amounts]


class AmountCase(Case):
    def assert_amount(self, found, wanted):
        """The value is an Amount in lowest terms, equal to a Fraction."""
        self.assertIs(type(found), Amount)
        self.assertIs(type(found.top), int)
        self.assertIs(type(found.bottom), int)
        self.assertEqual((found.top, found.bottom), (wanted.numerator, wanted.denominator))


class TestMaking(AmountCase):
    def test_defined_here(self):
        self.assert_defines(Amount, METHODS)
        self.assertIsInstance(vars(Amount)["is_whole"], property)
        for name in ("is_number", "of", "total"):
            self.assertIsInstance(vars(Amount)[name], staticmethod)
        self.assertIsInstance(vars(Amount)["read"], classmethod)
        self.assertEqual(Amount.__module__, "holeshift.amounts")

    def test_lowest_terms(self):
        for top in PARTS:
            self.assert_amount(Amount(top), Fraction(top))
            for bottom in PARTS:
                if bottom != 0:
                    self.assert_amount(Amount(top, bottom), Fraction(top, bottom))
        self.assertEqual((Amount(-2, -4).top, Amount(-2, -4).bottom), (1, 2))
        self.assertEqual((Amount(0, -4).top, Amount(0, -4).bottom), (0, 1))

    def test_by_name(self):
        self.assert_amount(Amount(top=6, bottom=-4), Fraction(-3, 2))
        self.assert_amount(Amount(bottom=3, top=6), Fraction(2))

    def test_is_whole(self):
        for top, bottom in PAIRS:
            self.assertIs(Amount(top, bottom).is_whole, bottom == 1)
        self.assertIs(Amount(4, 2).is_whole, True)
        self.assertIs(Amount(0, 7).is_whole, True)

    def test_no_integers(self):
        wrong = NO_INTEGERS + [Amount(1), Amount(1, 2), Gaps()]
        for value in wrong:
            for made in (lambda: Amount(value), lambda: Amount(1, value), lambda: Amount(0, bottom=value)):
                self.assertIs(self.assert_raises(BadAmount(value), made).value, value)

    def test_order_of_errors(self):
        for value in NO_INTEGERS:
            for second in (0, None, "x", [], True):
                self.assertIs(self.assert_raises(BadAmount(value), Amount, value, second).value, value)
        for top in INTEGERS:
            self.assert_raises(NoDivisor(), Amount, top, 0)
            self.assert_raises(BadAmount(False), Amount, top, False)


class TestArithmetic(AmountCase):
    def test_sums_differences_products(self):
        for one, other in operands():
            a, b = fraction(one), fraction(other)
            self.assert_amount(one + other, a + b)
            self.assert_amount(one - other, a - b)
            self.assert_amount(one * other, a * b)

    def test_quotients(self):
        for one, other in operands():
            a, b = fraction(one), fraction(other)
            if b == 0:
                continue
            self.assert_same(one // other, a // b)
            self.assert_amount(one % other, a % b)
            if isinstance(one, Amount):
                self.assert_amount(one.over(other), a / b)
        self.assert_amount(Amount(1, 2).over(number=3), Fraction(1, 6))

    def test_signs_of_quotients(self):
        half = Amount(1, 2)
        self.assert_same([Amount(7, 2) // -1, -7 // Amount(2), 7 // Amount(-2), Amount(-7) // -2], [-4, -4, -4, 3])
        rests = [Amount(-1, 3) % half, Amount(1, 3) % -half, -7 % Amount(2)]
        self.assert_same([str(rest) for rest in rests], ["1/6", "-1/6", "1"])

    def test_no_divisor(self):
        for one in [Amount(0), Amount(1), Amount(-7, 3)]:
            for zero in (0, Amount(0), Amount(0, 5)):
                self.assert_raises(NoDivisor(), lambda: one.over(zero))
                self.assert_raises(NoDivisor(), lambda: one // zero)
                self.assert_raises(NoDivisor(), lambda: one % zero)
                self.assert_raises(NoDivisor(), self.divide_in_place, one, zero)
                self.assert_raises(NoDivisor(), self.rest_in_place, one, zero)
        for one in WHOLE:
            self.assert_raises(NoDivisor(), lambda: one // Amount(0))
            self.assert_raises(NoDivisor(), lambda: one % Amount(0))

    def divide_in_place(self, one, other):
        one //= other
        return one

    def rest_in_place(self, one, other):
        one %= other
        return one

    def test_minus_and_size(self):
        for top, bottom in PAIRS:
            self.assert_amount(-Amount(top, bottom), -Fraction(top, bottom))
            self.assert_amount(abs(Amount(top, bottom)), abs(Fraction(top, bottom)))

    def test_in_place(self):
        for one, other in operands():
            a, b = fraction(one), fraction(other)
            for work, wanted in ((self.add, a + b), (self.subtract, a - b), (self.multiply, a * b)):
                found = work(one, other)
                self.assert_amount(found, wanted)
                self.assertIsNot(found, one)
                self.assertIsNot(found, other)
                self.assertEqual((fraction(one), fraction(other)), (a, b))
            if b != 0:
                self.assert_same(self.divide_in_place(one, other), a // b)
                self.assert_amount(self.rest_in_place(one, other), a % b)
                self.assertEqual((fraction(one), fraction(other)), (a, b))

    def add(self, one, other):
        one += other
        return one

    def subtract(self, one, other):
        one -= other
        return one

    def multiply(self, one, other):
        one *= other
        return one

    def test_the_second_name_keeps_the_first_object(self):
        for work in ("+= 1", "-= 1", "*= 3", "//= 2", "%= 2", "+= 0", "*= 1"):
            names = {"one": Amount(7, 2)}
            names["kept"] = names["one"]
            exec(f"one {work}", names)
            self.assertIsNot(names["one"], names["kept"])
            self.assertEqual((names["kept"].top, names["kept"].bottom), (7, 2))

    def test_nothing_changes(self):
        one, other = Amount(7, 2), Amount(-4, 3)
        for work in (
            lambda: one + other, lambda: one - other, lambda: one * other, lambda: one // other, lambda: one % other,
            lambda: one.over(other), lambda: -one, lambda: abs(other), lambda: one < other, lambda: one == other,
            lambda: bool(one), lambda: str(one), lambda: Amount.of(one), lambda: Amount.total([one, other]),
            lambda: 2 - one, lambda: 2 // one, lambda: 2 % one, lambda: one.is_whole, lambda: one * Gaps({"a": 1}),
        ):
            work()
            self.assertEqual([vars(one), vars(other)], [{"top": 7, "bottom": 2}, {"top": -4, "bottom": 3}])

    def test_gaps(self):
        gaps, half = Gaps({"a": 3, "b": Amount(-1, 2)}), Amount(1, 2)
        wanted = Gaps({"a": Amount(3, 2), "b": Amount(-1, 4)})
        for found in (half * gaps, gaps * half, self.multiply(half, gaps), self.multiply(gaps, half)):
            self.assertIs(type(found), Gaps)
            self.assertTrue(found == wanted)
        self.assertEqual([str(gaps), str(half)], ["a 3 b -1/2", "1/2"])

    def test_no_other_operands(self):
        # The document does not promise it, but True must not pass for 1.
        amount = Amount(7, 2)
        for value in NO_INTEGERS:
            for work in (
                lambda: amount + value, lambda: value + amount, lambda: amount - value, lambda: value - amount,
                lambda: amount * value, lambda: value * amount, lambda: amount // value, lambda: value // amount,
                lambda: amount % value, lambda: value % amount, lambda: amount < value, lambda: value < amount,
                lambda: amount <= value, lambda: amount > value, lambda: amount >= value,
                lambda: self.add(amount, value), lambda: self.rest_in_place(amount, value),
            ):
                self.assertRaises(TypeError, work)


class TestComparing(AmountCase):
    def test_orders(self):
        for one, other in operands():
            a, b = fraction(one), fraction(other)
            self.assert_same(
                [one < other, one <= other, one > other, one >= other, one == other, one != other],
                [a < b, a <= b, a > b, a >= b, a == b, a != b],
            )

    def test_equals_any_value(self):
        for amount in (Amount(0), Amount(1), Amount(1, 2), Amount(200)):
            for value in any_values():
                number = type(value) in (int, Amount)
                wanted = number and fraction(value) == fraction(amount)
                self.assert_same([amount == value, value == amount], [wanted, wanted])
                self.assert_same([amount != value, value != amount], [not wanted, not wanted])

    def test_no_bool_is_equal(self):
        self.assert_same([Amount(1) == True, True == Amount(1), Amount(0) == False, Amount(0) == 0],  # noqa: E712
                         [False, False, False, True])

    def test_bool(self):
        for top, bottom in PAIRS:
            self.assertIs(bool(Amount(top, bottom)), top != 0)


class TestNumbers(AmountCase):
    def test_is_number(self):
        for value in any_values():
            self.assertIs(Amount.is_number(value), type(value) in (int, Amount))
        self.assertIs(Amount.is_number(value=1), True)

    def test_of(self):
        for value in any_values():
            if type(value) in (int, Amount):
                self.assert_amount(Amount.of(value), fraction(value))
            else:
                self.assertIs(self.assert_raises(BadAmount(value), Amount.of, value).value, value)
        self.assert_amount(Amount.of(number=3), Fraction(3))

    def test_total(self):
        half = Amount(1, 2)
        for made in (list, tuple):
            self.assert_amount(Amount.total(made([])), Fraction(0))
            self.assert_amount(Amount.total(made([5])), Fraction(5))
            self.assert_amount(Amount.total(made([half])), Fraction(1, 2))
            self.assert_amount(Amount.total(made([half, 1, Amount(1, 3), -4])), Fraction(-13, 6))
            self.assert_amount(Amount.total(made([half] * 1000)), Fraction(500))
        self.assert_amount(Amount.total(numbers=[1, 2]), Fraction(3))

    def test_total_leaves_its_list(self):
        numbers = [Amount(1, 2), 1]
        found = Amount.total(numbers)
        self.assert_same(numbers, [Amount(1, 2), 1])
        numbers.append(5)
        self.assert_amount(found, Fraction(3, 2))


class TestTexts(AmountCase):
    def test_texts(self):
        for top, bottom in PAIRS:
            text = str(top) if bottom == 1 else f"{top}/{bottom}"
            self.assert_same(str(Amount(top, bottom)), text)
            self.assert_amount(Amount.read(text), Fraction(top, bottom))
        self.assert_same([str(Amount(-4, 8)), str(Amount(4, -2)), str(Amount(0, -3))], ["-1/2", "-2", "0"])
        self.assert_amount(Amount.read(text="-7/3"), Fraction(-7, 3))

    def test_long_texts(self):
        self.assertEqual(str(Amount(10 ** 4000 - 1, 10 ** 3999)), "9" * 4000 + "/1" + "0" * 3999)
        self.assertEqual(str(Amount(1 - 10 ** 4000)), "-" + "9" * 4000)

    def test_two_hundred_figures(self):
        nines, more = "9" * 200, "1" + "0" * 200
        most, over = 10 ** 200 - 1, 10 ** 200
        self.assert_amount(Amount.read(nines), Fraction(most))
        self.assert_amount(Amount.read("-" + nines), Fraction(-most))
        self.assert_amount(Amount.read("1/" + nines), Fraction(1, most))
        self.assert_amount(Amount.read("-" + nines + "/1" + "0" * 199), Fraction(-most, 10 ** 199))
        self.assertEqual(str(Amount(over)), more)
        for text in (more, "-" + more, "1/" + more, more + "/3", nines + "/" + more, "-1/" + more, "0" * 200 + "1"):
            self.assert_raises(BadText(0, 0), Amount.read, text)
        self.assert_raises(BadText(0, 0), Amount.read, "9" * 5000)

    def test_no_texts(self):
        for text in (
            "", " ", "-", "/", "+1", "01", "-01", "00", "1/1", "-0", " 1", "1 ", "1\n", "\n1", "2/4", "0/1", "0/5",
            "1/0", "0/0", "1/", "/2", "-/2", "1/-2", "-1/-2", "1/02", "1/+2", "1 /2", "1/ 2", "1/2/3", "1//2", "--1",
            "1.5", "1e3", "1_000", "0x1", "a", "none", "4/2", "-6/4", "1,2", "1-2", "1/2-",
            "\u0661", "\u00b2", "1/\u0662",
        ):
            self.assert_raises(BadText(0, 0), Amount.read, text)

    def test_any_value(self):
        for value in any_values():
            if not isinstance(value, str) or value not in ("1", "1/2", "0"):
                self.assert_raises(BadText(0, 0), Amount.read, value)


if __name__ == "__main__":
    unittest.main()
