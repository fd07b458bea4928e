"""Exact numbers: fractions in lowest terms."""

from math import gcd

from holeshift.errors import BadAmount, BadText, NoDivisor

MOST_FIGURES = 200


def is_int(value):
    """Whether any value is an integer; True and False are none."""
    return isinstance(value, int) and not isinstance(value, bool)


def is_int_within(value, least, most):
    """Whether any value is an integer from least to most."""
    return is_int(value) and least <= value <= most


def _is_figures(text):
    # isdigit alone would let figures of other scripts pass.
    return text.isascii() and text.isdigit() and len(text) <= MOST_FIGURES


class Amount:
    """The fraction top / bottom in lowest terms, with a bottom from 1 on. It never changes."""

    def __init__(self, top, bottom=1):
        for part in (top, bottom):
            if not is_int(part):
                raise BadAmount(part)
        if bottom == 0:
            raise NoDivisor()
        shared = gcd(top, bottom)
        if bottom < 0:
            shared = -shared
        self.top = top // shared
        self.bottom = bottom // shared

    @staticmethod
    def is_number(value):
        """Whether any value is an integer or an Amount."""
        return is_int(value) or isinstance(value, Amount)

    @staticmethod
    def of(number):
        """The Amount of a number; raises BadAmount(value) for any other value."""
        if isinstance(number, Amount):
            return number
        return Amount(number)

    @staticmethod
    def total(numbers):
        """The sum of a list or tuple of numbers, 0 of none."""
        found = Amount(0)
        for number in numbers:
            found = found + number
        return found

    @classmethod
    def read(cls, text):
        """The Amount with just this text; raises BadText(0, 0) for any other value."""
        if not isinstance(text, str):
            raise BadText(0, 0)
        above, stroke, below = text.partition("/")
        if stroke == "":
            below = "1"
        if not _is_figures(above.removeprefix("-")) or not _is_figures(below) or int(below) == 0:
            raise BadText(0, 0)
        amount = cls(int(above), int(below))
        # An Amount has one text alone, so 2/4, 01, -0 and 1/1 are told here.
        if str(amount) != text:
            raise BadText(0, 0)
        return amount

    def __str__(self):
        if self.bottom == 1:
            return str(self.top)
        return f"{self.top}/{self.bottom}"

    @property
    def is_whole(self):
        """Whether the bottom is 1."""
        return self.bottom == 1

    def over(self, number):
        """This amount divided by a number; raises NoDivisor() for 0."""
        divisor = Amount.of(number)
        return Amount(self.top * divisor.bottom, self.bottom * divisor.top)

    def __add__(self, other):
        if not Amount.is_number(other):
            return NotImplemented
        number = Amount.of(other)
        return Amount(self.top * number.bottom + number.top * self.bottom, self.bottom * number.bottom)

    def __radd__(self, other):
        return self + other

    def __iadd__(self, other):
        return self + other

    def __sub__(self, other):
        if not Amount.is_number(other):
            return NotImplemented
        return self + -other

    def __rsub__(self, other):
        return -self + other

    def __isub__(self, other):
        return self - other

    def __mul__(self, other):
        # Gaps know how they are multiplied, and amounts do not know of Gaps.
        if not Amount.is_number(other):
            return NotImplemented
        number = Amount.of(other)
        return Amount(self.top * number.top, self.bottom * number.bottom)

    def __rmul__(self, other):
        return self * other

    def __imul__(self, other):
        return self * other

    def __floordiv__(self, other):
        if not Amount.is_number(other):
            return NotImplemented
        quotient = self.over(other)
        return quotient.top // quotient.bottom

    def __rfloordiv__(self, other):
        if not Amount.is_number(other):
            return NotImplemented
        return Amount.of(other) // self

    def __ifloordiv__(self, other):
        return self // other

    def __mod__(self, other):
        return self - (self // other) * other

    def __rmod__(self, other):
        return other - (other // self) * self

    def __imod__(self, other):
        return self % other

    def __neg__(self):
        return Amount(-self.top, self.bottom)

    def __abs__(self):
        return Amount(abs(self.top), self.bottom)

    def __bool__(self):
        return bool(self.top != 0)

    def __eq__(self, other):
        if not Amount.is_number(other):
            return False
        number = Amount.of(other)
        return self.top == number.top and self.bottom == number.bottom

    def __lt__(self, other):
        return (self - other).top < 0

    def __le__(self, other):
        return (self - other).top <= 0

    def __gt__(self, other):
        return (self - other).top > 0

    def __ge__(self, other):
        return (self - other).top >= 0
