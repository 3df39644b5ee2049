"""What the tests share: fractions, benches and rays to try, things that are none, and reckoning in another way."""

import random
from fractions import Fraction

HALF_FORMS = [(0, 1), (1, 1), (-1, 1), (1, 2), (-1, 2), (3, 2), (-7, 3), (5, 1), (22, 7), (-1, 4)]
LONG_FORMS = [(10 ** 15 - 1, 10 ** 15 - 2), (-(10 ** 40) - 1, 3), (1, 10 ** 40)]
RATIOS = HALF_FORMS + LONG_FORMS
RAYS = [(one, other) for one in HALF_FORMS for other in HALF_FORMS]


def told(number):
    """A number of Python's own fractions as a tuple."""
    number = Fraction(number)
    return (number.numerator, number.denominator)


def meant(one):
    """A tuple as a number of Python's own fractions."""
    return Fraction(one[0], one[1])


def no_ratios():
    """Things of many kinds that are no fractions; made anew, for those that can be changed."""
    return [
        0, 1, -3, True, False, None, "", "1", "1/2", "ab", 1.5, 0.0, 1j, Fraction(1, 2), Fraction(2),
        (), (1,), (0,), (1, 2, 3), (0, 1, 1), (2, 4), (-2, 4), (2, 2), (0, 2), (0, 3), (1, 0), (0, 0), (-1, 0),
        (1, -1), (1, -2), (0, -1), (-1, -2), (True, 1), (False, 1), (1, True), (True, 2), (True, True), (0, True),
        ("1", 2), (1, "2"), ("1", "2"), (None, 1), (1, None), (1.0, 2), (1, 2.0), ([1], 2), (1, [2]), ((1, 2), 1),
        ((1, 2), (1, 3)), [], [1, 2], [0, 1], {}, {1: 2}, {0: 1, 1: 2}, set(), {1, 2}, b"12", range(1, 3), object(),
        int, len, ...,
    ]


def no_lists():
    """Things of many kinds that are no lists."""
    gap = ("gap", (1, 1))
    return [
        None, 0, 1, 61, -1, True, False, 1.5, 1j, "", "gap 1", "gap 1; glass 2", (), (gap,), gap, (gap, gap), {},
        {0: gap}, {"gap": (1, 1)}, set(), {gap}, frozenset([gap]), b"", b"gap 1", range(0), range(3), object(), list,
        len, ..., iter([gap]), Fraction(1, 2),
    ]


def no_pieces():
    """Things of many kinds that are no pieces."""
    one = (1, 2)
    return [
        None, 0, 1, True, False, 1.5, "", "gap", "gap 1", "gap 1/2", [], ["gap", one], ["stop", one, one], {},
        {"gap": one}, {0: "gap", 1: one}, set(), (), ("gap",), ("glass",), ("stop",), ("gap", one, one),
        ("glass", one, one), ("gap", one, None), ("stop", one), ("stop", one, one, one), ("stop", (1, 1), (0, 1)),
        ("stop", (1, 2), (1, 3)), ("stop", (-1, 3), (-1, 2)), ("stop", (10 ** 40, 1), (10 ** 40 - 1, 1)),
        ("Gap", one), ("GAP", one), ("Glass", one), ("GLASS", one), ("Stop", one, one), ("STOP", one, one),
        ("gaps", one), ("gap ", one), (" gap", one), ("", one), ("lens", one), ("mirror", one), ("times", one),
        ("lens", one, one), ("gaps", one, one), (b"gap", one), (None, one), (1, one), (True, one), (("gap",), one),
        (["gap"], one), ({}, one), (one, "gap"), (one, one), one, ((1, 2), (1, 2), (1, 2)), ("gap", "glass"),
        ("gap", 1, 2), ("gap", one[0]), object(), tuple, len, ..., b"gap 1", range(2), Fraction(1, 2),
    ]


def some_ratio(source, most=5):
    """A fraction by a source of numbers, 0 and whole ones often among them."""
    return told(Fraction(source.randint(-most, most), source.choice([1, 1, 2, 3, most])))


def some_piece(source, words=("gap", "glass", "stop")):
    word = source.choice(words)
    if word != "stop":
        return (word, some_ratio(source))
    ends = sorted([meant(some_ratio(source, 9)), meant(some_ratio(source, 9))])
    return ("stop", told(ends[0]), told(ends[1]))


def some_benches(seed, how_many, most_pieces, words=("gap", "glass", "stop")):
    """The same benches for the same seed."""
    source = random.Random(seed)
    return [
        [some_piece(source, words) for place in range(source.randint(0, most_pieces))] for turn in range(how_many)
    ]


def walked(bench, ray):
    """A walk in Python's own fractions, straight from the document's words."""
    height = meant(ray[0])
    slant = meant(ray[1])
    rays = [ray]
    for number, piece in enumerate(bench):
        if piece[0] == "gap":
            height = height + meant(piece[1]) * slant
        elif piece[0] == "glass":
            slant = slant - meant(piece[1]) * height
        elif not meant(piece[1]) <= height <= meant(piece[2]):
            return (rays, number)
        rays.append((told(height), told(slant)))
    return (rays, None)


def without_stops(bench):
    return [piece for piece in bench if piece[0] != "stop"]


def table_by_walks(bench):
    """A bench's table found by walking the rays (1, 0) and (0, 1), as if no stop ever stopped."""
    (high, rise) = walked(without_stops(bench), ((1, 1), (0, 1)))[0][-1]
    (lifted, slant) = walked(without_stops(bench), ((0, 1), (1, 1)))[0][-1]
    return (high, lifted, rise, slant)


def table_told(a, b, c, d):
    """A table of numbers of Python's own."""
    return (told(a), told(b), told(c), told(d))


def some_tables(seed, how_many, most_pieces=6):
    """Tables of benches, and ones with nothing but a and d, or with b or c of 0, among them."""
    tables = [table_by_walks(bench) for bench in some_benches(seed, how_many, most_pieces)]
    for a in [Fraction(1), Fraction(-1), Fraction(2), Fraction(-3, 5)]:
        tables += [table_told(a, 0, 0, 1 / a), table_told(a, 7, 0, 1 / a), table_told(a, 0, Fraction(-1, 2), 1 / a)]
    return tables + [table_told(0, 1, -1, 0), table_told(0, Fraction(-1, 3), 3, 5), table_told(5, 3, Fraction(-1, 3), 0)]


def no_tables():
    """Things of many kinds that are no tables."""
    nought = (0, 1)
    one = (1, 1)
    tables = [
        (one, nought, nought, nought), (nought, nought, nought, nought), (one, one, one, one), (nought, one, one, nought),
        (one, nought, nought, (-1, 1)), ((-1, 1), nought, nought, one), ((2, 1), nought, nought, (2, 1)),
        ((2, 1), one, one, (2, 1)), (one, (1, 2), (1, 2), one), ((1, 2), nought, nought, (1, 2)),
        (one, nought, nought, (10 ** 40 + 1, 10 ** 40)),
        (), (one,), (one, nought, nought), (one, nought, one), (one, nought, nought, one, nought),
        (one, nought, nought, one, one), ((one, nought), (nought, one)), ((one, nought, nought, one),), one, nought,
        (1, 0, 0, 1), (2, 3, 1, 2), [], [one, nought, nought, one], [[one, nought], [nought, one]], {},
        {0: one, 1: nought, 2: nought, 3: one}, {one: nought}, {one, nought}, set(), "", "abcd", "1 0 0 1", None, 0, 1, 4,
        True, False, 1.5, 1j, b"1001", range(4), object(), tuple, len, ..., Fraction(1), ("gap", one),
        [("gap", one)], ("gap", one, one, one), (None, None, None, None), (True, False, False, True),
        # These have the right sum all the same.
        ((2, 2), nought, nought, one), (one, (0, 2), nought, one), ((-1, -1), nought, nought, one),
        (one, nought, nought, (True, 1)), (one, (False, 1), nought, one), (one, nought, nought, (1, True)),
        ([1, 1], nought, nought, one), (one, nought, [0, 1], one), (1, nought, nought, 1), (one, 0, 0, one),
        (Fraction(1), Fraction(0), Fraction(0), Fraction(1)), ((1.0, 1), nought, nought, one),
        ((1, 1, 1), nought, nought, one), ((1,), nought, nought, one), (one, nought, nought, "1"),
        (one, (3, 1), nought, (4, 4)), (one, (6, 2), nought, one), (one, (-3, -1), nought, one),
    ]
    for part in no_ratios():
        tables += [(part, nought, nought, one), (one, part, nought, one), (one, nought, part, one)]
        tables += [(one, nought, nought, part), (part, part, part, part)]
    return tables
