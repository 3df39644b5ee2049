"""A table taken apart into the fewest gaps and glasses."""

from grindbench.pieces import GAP, GLASS
from grindbench.ratios import less_by, quotient_of
from grindbench.tables import LEAVING, NOUGHT, ONE, look_at_table


def less(one):
    """0 less a fraction."""
    return less_by(NOUGHT, one)


def part_short_of_one(one, whole):
    """How much a fraction is short of 1, by a whole other than 0."""
    return quotient_of(less_by(ONE, one), whole)


def glass_gap_glass(table):
    """The three pieces of a table whose b is not 0."""
    first = (GLASS, part_short_of_one(table[0], table[1]))
    last = (GLASS, part_short_of_one(table[3], table[1]))
    return [first, (GAP, table[1]), last]


def gap_glass_gap(table):
    """The three pieces of a table whose c is not 0."""
    strength = less(table[2])
    first = (GAP, part_short_of_one(table[3], strength))
    last = (GAP, part_short_of_one(table[0], strength))
    return [first, (GLASS, strength), last]


def taken_apart(table):
    """A bench of gaps and glasses with this table and with as few pieces as any such bench has."""
    look_at_table(table)
    if table == LEAVING:
        return []
    if table[1] != NOUGHT:
        pieces = glass_gap_glass(table)
    elif table[2] != NOUGHT:
        pieces = gap_glass_gap(table)
    else:
        # One to three pieces leave b or c other than 0, so it wants four: behind a gap of 1, the rest has b = -a.
        pieces = [(GAP, ONE)] + glass_gap_glass((table[0], less(table[0]), NOUGHT, table[3]))
    return [piece for piece in pieces if piece[1] != NOUGHT]
