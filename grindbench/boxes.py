"""Boxes of rays, and stretches of slants: what they are, and the refusal of what is none."""

from grindbench.errors import NoBox
from grindbench.ratios import is_less, is_ratio


def is_stretch(first, last):
    """Whether these two are fractions, the first not above the last."""
    return is_ratio(first) and is_ratio(last) and not is_less(last, first)


def look_at_stretch(first, last):
    """Refuses what is no stretch of slants."""
    if not is_stretch(first, last):
        raise NoBox("slants go from one fraction to another one that is not below it")


def is_box(thing):
    """Whether thing is a box (low, high, first, last)."""
    if not isinstance(thing, tuple) or len(thing) != 4:
        return False
    return is_stretch(thing[0], thing[1]) and is_stretch(thing[2], thing[3])


def look_at_box(box):
    """Refuses what is no box."""
    if not is_box(box):
        raise NoBox("a box is a tuple of four fractions, low not above high, first not above last")
