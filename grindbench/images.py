"""Images, growths, foci and strength, told of a bench's table."""

from grindbench.ratios import less_by, product_of, quotient_of, sum_of
from grindbench.tables import NOUGHT, ONE, look_at_table


def spread_of(table, s):
    """What each slant at the place s, s ahead of the bench, adds to height and slant behind it."""
    # The second column of the table with a gap of s ahead: the heights and slants of (0, 1) at s.
    height = sum_of(product_of(table[0], s), table[1])
    slant = sum_of(product_of(table[2], s), table[3])
    return (height, slant)


def image_of(table, s):
    """The place behind the bench at which the rays of each point at s come together, or None."""
    look_at_table(table)
    spread = spread_of(table, s)
    if spread[1] == NOUGHT:
        return None
    return less_by(NOUGHT, quotient_of(spread[0], spread[1]))


def growth_of(table, s):
    """The height at the image over the height at s, or None where there is no image."""
    look_at_table(table)
    spread = spread_of(table, s)
    if spread[1] == NOUGHT:
        return None
    # With the image at t it is a + c t, which a d - b c = 1 makes 1 by c s + d.
    return quotient_of(ONE, spread[1])


def foci_of(table):
    """The front and the back focus, or None where the bench has none."""
    look_at_table(table)
    strength = strength_of(table)
    if strength == NOUGHT:
        return None
    return (quotient_of(table[3], strength), quotient_of(table[0], strength))


def strength_of(table):
    """0 less the table's c."""
    look_at_table(table)
    return less_by(NOUGHT, table[2])
