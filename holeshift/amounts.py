"""Exact numbers: fractions in lowest terms."""

from math import gcd, lcm

from holeshift.errors import BadAmount, BadText, NoDivisor

MOST_FIGURES = 200


def is_int(value):
    """Whether any value is an integer; True and False are none."""
    return isinstance(value, int) and not isinstance(value, bool)


def is_int_within(value, least, most):
    """Whether any value is an integer from least to most."""
    return is_int(value) and least <= value <= most


def shared_bottom(amounts):
    """The least number that is a multiple of the bottoms of all these amounts."""
    found = 1
    for amount in amounts:
        found = lcm(found, amount.bottom)
    return found


def whole_over(amount, bottom):
    """An amount times this multiple of its bottom, an integer."""
    return amount.top * (bottom // amount.bottom)


def sum_of_products(pairs):
    """The sum of amounts, each times an integer, of a list of the pairs of both."""
    top, bottom = 0, 1
    for amount, times in pairs:
        # Fractions of one bottom are the rule, and quickly added.
        if amount.bottom == bottom:
            top = top + amount.top * times
        else:
            shared = lcm(bottom, amount.bottom)
            top = top * (shared // bottom) + amount.top * times * (shared // amount.bottom)
            bottom = shared
    return Amount(top, bottom)


def _is_figures(text):
    # isdigit alone would let figures of other scripts pass.
    return text.isascii() and text.isdigit() and len(text) <= MOST_FIGURES


class Amount:
    """The fraction top / bottom in lowest terms, with a bottom from 1 on. It never changes."""

    def __init__(self, top, bottom=1):
        if not is_int(top):
            raise BadAmount(top)
        if not is_int(bottom):
            raise BadAmount(bottom)
        if bottom == 0:
            raise NoDivisor()
        shared = gcd(top, bottom) if bottom > 0 else -gcd(top, bottom)
        self.top = top // shared
        self.bottom = bottom // shared

    @staticmethod
    def is_number(value):
        """Whether any value is an integer or an Amount."""
        return is_int(value) or isinstance(value, Amount)

    @staticmethod
    def of(number):
        """The Amount of a number; raises BadAmount(value) for any other value."""
        if isinstance(number, Amount):
            return number
        return Amount(number)

    @staticmethod
    def total(numbers):
        """The sum of a list or tuple of numbers, 0 of none."""
        return sum_of_products([(Amount.of(number), 1) for number in numbers])

    @classmethod
    def read(cls, text):
        """The Amount with just this text; raises BadText(0, 0) for any other value."""
        if not isinstance(text, str):
            raise BadText(0, 0)
        above, stroke, below = text.partition("/")
        if stroke == "":
            below = "1"
        if not _is_figures(above.removeprefix("-")) or not _is_figures(below) or int(below) == 0:
            raise BadText(0, 0)
        amount = cls(int(above), int(below))
        # An Amount has one text alone, so 2/4, 01, -0 and 1/1 are told here.
        if str(amount) != text:
            raise BadText(0, 0)
        return amount

    def __str__(self):
        if self.bottom == 1:
            return str(self.top)
        return f"{self.top}/{self.bottom}"

    @property
    def is_whole(self):
        """Whether the bottom is 1."""
        return self.bottom == 1

    def over(self, number):
        """This amount divided by a number; raises NoDivisor() for 0."""
        divisor = Amount.of(number)
        return Amount(self.top * divisor.bottom, self.bottom * divisor.top)

    def __add__(self, other):
        if isinstance(other, Amount):
            return Amount(self.top * other.bottom + other.top * self.bottom, self.bottom * other.bottom)
        if not is_int(other):
            return NotImplemented
        return Amount(self.top + other * self.bottom, self.bottom)

    def __radd__(self, other):
        return self + other

    def __iadd__(self, other):
        return self + other

    def __sub__(self, other):
        if not Amount.is_number(other):
            return NotImplemented
        return self + -other

    def __rsub__(self, other):
        return -self + other

    def __isub__(self, other):
        return self - other

    def __mul__(self, other):
        if isinstance(other, Amount):
            return Amount(self.top * other.top, self.bottom * other.bottom)
        # Gaps know how they are multiplied, and amounts do not know of Gaps.
        if not is_int(other):
            return NotImplemented
        return Amount(self.top * other, self.bottom)

    def __rmul__(self, other):
        return self * other

    def __imul__(self, other):
        return self * other

    def __floordiv__(self, other):
        if not Amount.is_number(other):
            return NotImplemented
        quotient = self.over(other)
        return quotient.top // quotient.bottom

    def __rfloordiv__(self, other):
        if not Amount.is_number(other):
            return NotImplemented
        return Amount.of(other) // self

    def __ifloordiv__(self, other):
        return self // other

    def __mod__(self, other):
        return self - (self // other) * other

    def __rmod__(self, other):
        return other - (other // self) * self

    def __imod__(self, other):
        return self % other

    def __neg__(self):
        return Amount(-self.top, self.bottom)

    def __abs__(self):
        return Amount(abs(self.top), self.bottom)

    def __bool__(self):
        return bool(self.top != 0)

    def __eq__(self, other):
        if isinstance(other, Amount):
            return self.top == other.top and self.bottom == other.bottom
        return is_int(other) and self.bottom == 1 and self.top == other

    def __lt__(self, other):
        if not Amount.is_number(other):
            return NotImplemented
        number = Amount.of(other)
        return self.top * number.bottom < number.top * self.bottom

    def __le__(self, other):
        if not Amount.is_number(other):
            return NotImplemented
        number = Amount.of(other)
        return self.top * number.bottom <= number.top * self.bottom

    def __gt__(self, other):
        if not Amount.is_number(other):
            return NotImplemented
        number = Amount.of(other)
        return self.top * number.bottom > number.top * self.bottom

    def __ge__(self, other):
        if not Amount.is_number(other):
            return NotImplemented
        number = Amount.of(other)
        return self.top * number.bottom >= number.top * self.bottom
