"""Pieces of a bench: gaps, glasses and stops, as tuples and as objects; and what a bench is."""

from grindbench.errors import NoBench
from grindbench.ratios import is_less, is_ratio, less_by, product_of, sum_of

GAP = "gap"
GLASS = "glass"
STOP = "stop"
MOST_PIECES = 60


class Piece:
    """What stands on a bench; unless it says otherwise, it leaves each ray as it is and stops none."""

    def lets(self, ray):
        """Whether it lets a ray by."""
        return True

    def bent(self, ray):
        """The ray behind it."""
        return ray


class Gap(Piece):
    """A length of the line without anything; below 0 it is a step back on paper."""

    def __init__(self, length):
        self.length = length

    def bent(self, ray):
        """The ray behind the gap: its slant lifts it all along the length."""
        return (sum_of(ray[0], product_of(self.length, ray[1])), ray[1])

    def told(self):
        """The piece as a tuple."""
        return (GAP, self.length)


class Glass(Piece):
    """A glass without thickness."""

    def __init__(self, strength):
        self.strength = strength

    def bent(self, ray):
        """The ray behind the glass: its slant is less by the strength times its height."""
        return (ray[0], less_by(ray[1], product_of(self.strength, ray[0])))

    def told(self):
        """The piece as a tuple."""
        return (GLASS, self.strength)


class Stop(Piece):
    """A stop with an opening, the opening's ends within it."""

    def __init__(self, low, high):
        self.low = low
        self.high = high

    def lets(self, ray):
        """Whether the ray's height lies in the opening."""
        return not is_less(ray[0], self.low) and not is_less(self.high, ray[0])

    def told(self):
        """The piece as a tuple."""
        return (STOP, self.low, self.high)


def is_piece(thing):
    """Whether thing is a piece's tuple."""
    if not isinstance(thing, tuple) or len(thing) < 2 or not isinstance(thing[0], str):
        return False
    if not all([is_ratio(part) for part in thing[1:]]):
        return False
    if thing[0] == STOP:
        return len(thing) == 3 and not is_less(thing[2], thing[1])
    return thing[0] in (GAP, GLASS) and len(thing) == 2


def piece_of(told):
    """The object of a piece's tuple."""
    if told[0] == GAP:
        return Gap(told[1])
    if told[0] == GLASS:
        return Glass(told[1])
    return Stop(told[1], told[2])


def look_at(bench):
    """Refuses what is no bench; pieces are numbered from 0 on, as a list's things are."""
    if not isinstance(bench, list) or len(bench) > MOST_PIECES:
        raise NoBench(None)
    for number, thing in enumerate(bench):
        if not is_piece(thing):
            raise NoBench(number)
