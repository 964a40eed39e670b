"""Shares: fractions of whole numbers, by which moments and lengths of time are told."""

from meanmoon.errors import NoShare
from meanmoon.numerals import numeral


class Share:
    """A fraction in lowest terms; its bottom is above 0."""

    def __init__(self, top, bottom=1):
        if bottom == 0:
            raise NoShare(top)
        common = common_divisor(top, bottom)
        if bottom < 0:
            common = -common
        self.top = top // common
        self.bottom = bottom // common

    def __eq__(self, other):
        return isinstance(other, Share) and self.top == other.top and self.bottom == other.bottom

    def __str__(self):
        if self.bottom == 1:
            return f"{numeral(self.top)}"
        return f"{numeral(self.top)}/{numeral(self.bottom)}"

    def __repr__(self):
        return f"Share({numeral(self.top)}, {numeral(self.bottom)})"


def common_divisor(one, two):
    """Tell the greatest whole number that divides both, of which not both are 0."""
    while two != 0:
        one, two = two, one % two
    return abs(one)


def common_multiple(one, two):
    """Tell the least whole number above 0 that two whole numbers above 0 divide."""
    return one // common_divisor(one, two) * two


def as_share(number):
    """Tell the Share itself, or the one of a whole number."""
    if isinstance(number, Share):
        return number
    return Share(number)


def plus(one, two):
    """Tell the sum of two Shares."""
    first = as_share(one)
    second = as_share(two)
    return Share(first.top * second.bottom + second.top * first.bottom, first.bottom * second.bottom)


def minus(one, two):
    """Tell the first less the second."""
    first = as_share(one)
    second = as_share(two)
    return Share(first.top * second.bottom - second.top * first.bottom, first.bottom * second.bottom)


def times(one, two):
    """Tell the product of two Shares."""
    first = as_share(one)
    second = as_share(two)
    return Share(first.top * second.top, first.bottom * second.bottom)


def over(one, two):
    """Tell the first by the second; refused where the second is nought."""
    first = as_share(one)
    second = as_share(two)
    # Nought has the bottom 1, so that Share's own refusal tells the first one's top.
    return Share(first.top * second.bottom, first.bottom * second.top)


def before(one, two):
    """Tell whether the first is less than the second."""
    first = as_share(one)
    second = as_share(two)
    return first.top * second.bottom < second.top * first.bottom


def whole(share):
    """Tell the greatest whole number that isn't greater."""
    number = as_share(share)
    return number.top // number.bottom


def rounded_up(share):
    """Tell the least whole number that isn't less."""
    number = as_share(share)
    return -(-number.top // number.bottom)
