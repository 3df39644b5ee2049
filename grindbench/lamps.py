"""Lamps: points of light (height, place) ahead of a bench, and what they throw on a screen behind it."""

from grindbench.boxes import look_at_stretch
from grindbench.limits import limits_of
from grindbench.pieces import Gap
from grindbench.ratios import is_less, less_by, product_of, quotient_of, sum_of
from grindbench.tables import NOUGHT, made_by, table_of


def in_order(one, other):
    """The two fractions as a tuple, the lesser first."""
    return (other, one) if is_less(other, one) else (one, other)


def lesser_of(one, other):
    """The lesser of two fractions."""
    return in_order(one, other)[0]


def greater_of(one, other):
    """The greater of two fractions."""
    return in_order(one, other)[1]


def slants_by(limit, lamp, first, last):
    """The slants of a stretch with which a lamp's light goes by the stop of a limit, or None."""
    # Light of the slant u leaves as (h, u), comes to the bench as (h + s u, u) and to the stop as a h + (a s + b) u.
    steady = product_of(limit[1], lamp[0])
    rising = sum_of(product_of(limit[1], lamp[1]), limit[2])
    low = less_by(limit[3], steady)
    high = less_by(limit[4], steady)
    if rising == NOUGHT:
        # All its light comes to the stop with one height.
        return (first, last) if not is_less(NOUGHT, low) and not is_less(high, NOUGHT) else None
    ends = in_order(quotient_of(low, rising), quotient_of(high, rising))
    first = greater_of(first, ends[0])
    last = lesser_of(last, ends[1])
    return None if is_less(last, first) else (first, last)


def slants_of(bench, lamp, first, last):
    """The slants from first to last that go by all stops, as (first, last), or None where none does."""
    limits = limits_of(bench)
    look_at_stretch(first, last)
    slants = (first, last)
    for limit in limits:
        slants = slants_by(limit, lamp, slants[0], slants[1])
        if slants is None:
            return None
    return slants


def height_at(table, lamp, slant, t):
    """The height on a screen t behind a table of the light that a lamp sends with this slant."""
    ahead = Gap(lamp[1]).bent((lamp[0], slant))
    return Gap(t).bent(made_by(table, ahead))[0]


def spots_of(bench, lamp, slants, t):
    """The least and the greatest height of a lamp's light on a screen t behind the bench."""
    table = table_of(bench)
    # From slant to slant heights go on evenly, so that the least and the greatest are at the ends.
    return in_order(height_at(table, lamp, slants[0], t), height_at(table, lamp, slants[1], t))


def blur_of(bench, lamp, slants, t):
    """How far apart a lamp's spots are on a screen t behind the bench."""
    spots = spots_of(bench, lamp, slants, t)
    return less_by(spots[1], spots[0])
