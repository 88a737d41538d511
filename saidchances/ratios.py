"""Exact quotients of two integers, and the numbers and chances that they and integers are."""

from math import gcd

from saidchances.decimals import integer_of, is_digits, notation
from saidchances.errors import BadNumber, BadText, ByZero
from saidchances.kinds import is_integer


class Ratio:
    """The quotient of two integers, which never changes."""

    def __init__(self, top, bottom=1):
        if bottom == 0:
            raise ByZero()
        common = gcd(top, bottom)
        if bottom < 0:
            common = -common
        self._top = top // common
        self._bottom = bottom // common

    @property
    def top(self):
        """The top in lowest terms."""
        return self._top

    @property
    def bottom(self):
        """The bottom in lowest terms, above 0."""
        return self._bottom

    def __add__(self, other):
        number = as_ratio(other)
        return Ratio(self._top * number.bottom + number.top * self._bottom, self._bottom * number.bottom)

    def __sub__(self, other):
        number = as_ratio(other)
        return Ratio(self._top * number.bottom - number.top * self._bottom, self._bottom * number.bottom)

    def __mul__(self, other):
        number = as_ratio(other)
        return Ratio(self._top * number.top, self._bottom * number.bottom)

    def __neg__(self):
        return Ratio(-self._top, self._bottom)

    def __eq__(self, other):
        if is_integer(other):
            return self._bottom == 1 and self._top == other
        return isinstance(other, Ratio) and self._top == other.top and self._bottom == other.bottom

    def __str__(self):
        if self._bottom == 1:
            return f"{notation(self._top)}"
        return f"{notation(self._top)}/{notation(self._bottom)}"

    def over(self, number):
        """The quotient by a number."""
        divisor = as_ratio(number)
        return Ratio(self._top * divisor.bottom, self._bottom * divisor.top)

    def below(self, number):
        """Whether this is less than a number."""
        other = as_ratio(number)
        return self._top * other.bottom < other.top * self._bottom

    def size(self):
        """This without a minus."""
        return Ratio(abs(self._top), self._bottom)

    @classmethod
    def read(cls, text):
        """The Ratio with a text."""
        if not isinstance(text, str):
            raise BadText()
        front, slash, bottom = text.partition("/")
        if slash == "":
            bottom = "1"
        digits = front.removeprefix("-")
        if not is_digits(digits) or not is_digits(bottom) or integer_of(bottom) == 0:
            raise BadText()
        top = -integer_of(digits) if front.startswith("-") else integer_of(digits)
        ratio = cls(top, integer_of(bottom))
        # A Ratio has just one text: this refuses what is not in lowest terms, and spare signs and zeros.
        if str(ratio) != text:
            raise BadText()
        return ratio


def is_number(value):
    """Whether any value is an integer or a Ratio."""
    return is_integer(value) or isinstance(value, Ratio)


def is_chance(value):
    """Whether any value is a number from 0 to 1."""
    if not is_number(value):
        return False
    number = as_ratio(value)
    return not number.below(0) and not Ratio(1).below(number)


def as_ratio(value):
    """The Ratio that is equal to a number."""
    if isinstance(value, Ratio):
        return value
    if is_integer(value):
        return Ratio(value)
    raise BadNumber(value)


def total(numbers):
    """The sum of a list of numbers."""
    result = Ratio(0)
    for number in numbers:
        result = result + number
    return result


def least(numbers):
    """The least one of a list of one or more numbers."""
    best = as_ratio(numbers[0])
    for number in numbers:
        if as_ratio(number).below(best):
            best = as_ratio(number)
    return best


def greatest(numbers):
    """The greatest one of a list of one or more numbers."""
    best = as_ratio(numbers[0])
    for number in numbers:
        if best.below(number):
            best = as_ratio(number)
    return best


def ascending(rows):
    """Tuples of Ratios in ascending order, equal ones once."""
    # Unlike numbers with bottoms up to b are at least 1 / b ** 2 apart. So they have unlike floors,
    # in the same order, once they are multiplied by b ** 2; and integers can be sorted.
    scale = max([number.bottom for row in rows for number in row], default=1) ** 2
    found = {}
    for row in rows:
        found[tuple([number.top * scale // number.bottom for number in row])] = row
    return [found[key] for key in sorted(found)]
