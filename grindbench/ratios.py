"""Fractions: tuples (top, bottom) of whole numbers in lowest terms, bottom from 1 on."""

from grindbench.errors import NoNumber


def is_whole(thing):
    """Whether thing is a whole number."""
    # Python counts True and False among the ints; here they are none.
    return isinstance(thing, int) and not isinstance(thing, bool)


def common_divisor(one, other):
    """The greatest number that divides both whole numbers; 0 where both are 0."""
    greater = abs(one)
    lesser = abs(other)
    while lesser != 0:
        rest = greater % lesser
        greater = lesser
        lesser = rest
    return greater


def is_ratio(thing):
    """Whether thing is a fraction."""
    if not isinstance(thing, tuple) or len(thing) != 2:
        return False
    top = thing[0]
    bottom = thing[1]
    if not is_whole(top) or not is_whole(bottom):
        return False
    return bottom >= 1 and common_divisor(top, bottom) == 1


def ratio_of(top, bottom):
    """The fraction of two whole numbers, the second not 0."""
    if not is_whole(top) or not is_whole(bottom) or bottom == 0:
        raise NoNumber("a fraction is made of two whole numbers, the second not 0")
    divisor = common_divisor(top, bottom)
    if bottom < 0:
        # The sign goes to the top, so that the bottom is from 1 on.
        divisor = 0 - divisor
    return (top // divisor, bottom // divisor)


def sum_of(one, other):
    """The one and the other together."""
    return ratio_of(one[0] * other[1] + other[0] * one[1], one[1] * other[1])


def less_by(one, other):
    """The one less the other."""
    return ratio_of(one[0] * other[1] - other[0] * one[1], one[1] * other[1])


def product_of(one, other):
    """The one times the other."""
    return ratio_of(one[0] * other[0], one[1] * other[1])


def quotient_of(one, other):
    """The one by the other; by (0, 1) it is refused."""
    # The other's top becomes a bottom, so ratio_of refuses a quotient by (0, 1).
    return ratio_of(one[0] * other[1], one[1] * other[0])


def is_less(one, other):
    """Whether the one is below the other."""
    # Bottoms are above 0, so multiplying by both keeps the order.
    return one[0] * other[1] < other[0] * one[1]
