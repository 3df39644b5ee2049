"""Tables: what a whole bench makes of a ray, as four fractions (a, b, c, d) with a d - b c = 1."""

from grindbench.errors import NoTable
from grindbench.pieces import look_at, piece_of
from grindbench.ratios import is_ratio, less_by, product_of, sum_of

NOUGHT = (0, 1)
ONE = (1, 1)
LEAVING = (ONE, NOUGHT, NOUGHT, ONE)


def is_table(thing):
    """Whether thing is a table."""
    if not isinstance(thing, tuple) or len(thing) != 4 or not all([is_ratio(part) for part in thing]):
        return False
    return less_by(product_of(thing[0], thing[3]), product_of(thing[1], thing[2])) == ONE


def look_at_table(table):
    """Refuses what is no table."""
    if not is_table(table):
        raise NoTable("a table is a tuple of four fractions a, b, c, d with a d - b c = 1")


def table_of_rays(high, slanted):
    """The table that makes the ray (1, 0) to the first and the ray (0, 1) to the second of these."""
    return (high[0], slanted[0], high[1], slanted[1])


def table_of(bench):
    """The table that does what all pieces do one behind the other, as if no stop ever stopped."""
    look_at(bench)
    high = (ONE, NOUGHT)
    slanted = (NOUGHT, ONE)
    for told in bench:
        piece = piece_of(told)
        high = piece.bent(high)
        slanted = piece.bent(slanted)
    return table_of_rays(high, slanted)


def made_by(table, ray):
    """The ray that a table makes, the table not looked at."""
    height = sum_of(product_of(table[0], ray[0]), product_of(table[1], ray[1]))
    slant = sum_of(product_of(table[2], ray[0]), product_of(table[3], ray[1]))
    return (height, slant)


def joined(first, second):
    """The table of two one behind the other, neither looked at."""
    return table_of_rays(made_by(second, (first[0], first[2])), made_by(second, (first[1], first[3])))


def bent_by(table, ray):
    """The ray behind all that has this table."""
    look_at_table(table)
    return made_by(table, ray)


def put_behind(first, second):
    """The table of two one behind the other, the first one first."""
    look_at_table(first)
    look_at_table(second)
    return joined(first, second)


def undoing_of(table):
    """The table that undoes a table."""
    look_at_table(table)
    return (table[3], less_by(NOUGHT, table[1]), less_by(NOUGHT, table[2]), table[0])


def power_of(table, n):
    """The table n times one behind the other; below 0, the undoing one."""
    look_at_table(table)
    base = undoing_of(table) if n < 0 else table
    power = LEAVING
    left = abs(n)
    # Squared from step to step, so that few of the long products are reckoned.
    while left > 0:
        if left % 2 == 1:
            power = joined(power, base)
        left = left // 2
        if left > 0:
            base = joined(base, base)
    return power
