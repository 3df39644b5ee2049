"""What the tests share: fractions, benches and rays to try, things that are none, and reckoning in another way."""

import random
from fractions import Fraction

HALF_FORMS = [(0, 1), (1, 1), (-1, 1), (1, 2), (-1, 2), (3, 2), (-7, 3), (5, 1), (22, 7), (-1, 4)]
LONG_FORMS = [(10 ** 15 - 1, 10 ** 15 - 2), (-(10 ** 40) - 1, 3), (1, 10 ** 40)]
RATIOS = HALF_FORMS + LONG_FORMS
RAYS = [(one, other) for one in HALF_FORMS for other in HALF_FORMS]


def told(number):
    """A number of Python's own fractions as a tuple."""
    number = Fraction(number)
    return (number.numerator, number.denominator)


def meant(one):
    """A tuple as a number of Python's own fractions."""
    return Fraction(one[0], one[1])


def no_ratios():
    """Things of many kinds that are no fractions; made anew, for those that can be changed."""
    return [
        0, 1, -3, True, False, None, "", "1", "1/2", "ab", 1.5, 0.0, 1j, Fraction(1, 2), Fraction(2),
        (), (1,), (0,), (1, 2, 3), (0, 1, 1), (2, 4), (-2, 4), (2, 2), (0, 2), (0, 3), (1, 0), (0, 0), (-1, 0),
        (1, -1), (1, -2), (0, -1), (-1, -2), (True, 1), (False, 1), (1, True), (True, 2), (True, True), (0, True),
        ("1", 2), (1, "2"), ("1", "2"), (None, 1), (1, None), (1.0, 2), (1, 2.0), ([1], 2), (1, [2]), ((1, 2), 1),
        ((1, 2), (1, 3)), [], [1, 2], [0, 1], {}, {1: 2}, {0: 1, 1: 2}, set(), {1, 2}, b"12", range(1, 3), object(),
        int, len, ...,
    ]


def no_lists():
    """Things of many kinds that are no lists."""
    gap = ("gap", (1, 1))
    return [
        None, 0, 1, 61, -1, True, False, 1.5, 1j, "", "gap 1", "gap 1; glass 2", (), (gap,), gap, (gap, gap), {},
        {0: gap}, {"gap": (1, 1)}, set(), {gap}, frozenset([gap]), b"", b"gap 1", range(0), range(3), object(), list,
        len, ..., iter([gap]), Fraction(1, 2),
    ]


def no_pieces():
    """Things of many kinds that are no pieces."""
    one = (1, 2)
    return [
        None, 0, 1, True, False, 1.5, "", "gap", "gap 1", "gap 1/2", [], ["gap", one], ["stop", one, one], {},
        {"gap": one}, {0: "gap", 1: one}, set(), (), ("gap",), ("glass",), ("stop",), ("gap", one, one),
        ("glass", one, one), ("gap", one, None), ("stop", one), ("stop", one, one, one), ("stop", (1, 1), (0, 1)),
        ("stop", (1, 2), (1, 3)), ("stop", (-1, 3), (-1, 2)), ("stop", (10 ** 40, 1), (10 ** 40 - 1, 1)),
        ("Gap", one), ("GAP", one), ("Glass", one), ("GLASS", one), ("Stop", one, one), ("STOP", one, one),
        ("gaps", one), ("gap ", one), (" gap", one), ("", one), ("lens", one), ("mirror", one), ("times", one),
        ("lens", one, one), ("gaps", one, one), (b"gap", one), (None, one), (1, one), (True, one), (("gap",), one),
        (["gap"], one), ({}, one), (one, "gap"), (one, one), one, ((1, 2), (1, 2), (1, 2)), ("gap", "glass"),
        ("gap", 1, 2), ("gap", one[0]), object(), tuple, len, ..., b"gap 1", range(2), Fraction(1, 2),
    ]


def some_ratio(source, most=5):
    """A fraction by a source of numbers, 0 and whole ones often among them."""
    return told(Fraction(source.randint(-most, most), source.choice([1, 1, 2, 3, most])))


def some_piece(source, words=("gap", "glass", "stop")):
    word = source.choice(words)
    if word != "stop":
        return (word, some_ratio(source))
    ends = sorted([meant(some_ratio(source, 9)), meant(some_ratio(source, 9))])
    return ("stop", told(ends[0]), told(ends[1]))


def some_benches(seed, how_many, most_pieces, words=("gap", "glass", "stop")):
    """The same benches for the same seed."""
    source = random.Random(seed)
    return [
        [some_piece(source, words) for place in range(source.randint(0, most_pieces))] for turn in range(how_many)
    ]


def walked(bench, ray):
    """A walk in Python's own fractions, straight from the document's words."""
    height = meant(ray[0])
    slant = meant(ray[1])
    rays = [ray]
    for number, piece in enumerate(bench):
        if piece[0] == "gap":
            height = height + meant(piece[1]) * slant
        elif piece[0] == "glass":
            slant = slant - meant(piece[1]) * height
        elif not meant(piece[1]) <= height <= meant(piece[2]):
            return (rays, number)
        rays.append((told(height), told(slant)))
    return (rays, None)


def without_stops(bench):
    return [piece for piece in bench if piece[0] != "stop"]
