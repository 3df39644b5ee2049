"""What the tests share: fractions, benches and rays to try, things that are none, and reckoning in another way."""

import random
from fractions import Fraction

from grindbench.errors import NoBench

HALF_FORMS = [(0, 1), (1, 1), (-1, 1), (1, 2), (-1, 2), (3, 2), (-7, 3), (5, 1), (22, 7), (-1, 4)]
LONG_FORMS = [(10 ** 15 - 1, 10 ** 15 - 2), (-(10 ** 40) - 1, 3), (1, 10 ** 40)]
RATIOS = HALF_FORMS + LONG_FORMS
RAYS = [(one, other) for one in HALF_FORMS for other in HALF_FORMS]


def told(number):
    """A number of Python's own fractions as a tuple."""
    number = Fraction(number)
    return (number.numerator, number.denominator)


def meant(one):
    """A tuple as a number of Python's own fractions."""
    return Fraction(one[0], one[1])


def stop_of(low, high):
    """A stop's tuple of numbers of Python's own."""
    return ("stop", told(low), told(high))


def lamp_of(height, place):
    """A lamp of numbers of Python's own."""
    return (told(height), told(place))


def no_ratios():
    """Things of many kinds that are no fractions; made anew, for those that can be changed."""
    return [
        0, 1, -3, True, False, None, "", "1", "1/2", "ab", 1.5, 0.0, 1j, Fraction(1, 2), Fraction(2),
        (), (1,), (0,), (1, 2, 3), (0, 1, 1), (2, 4), (-2, 4), (2, 2), (0, 2), (0, 3), (1, 0), (0, 0), (-1, 0),
        (1, -1), (1, -2), (0, -1), (-1, -2), (True, 1), (False, 1), (1, True), (True, 2), (True, True), (0, True),
        ("1", 2), (1, "2"), ("1", "2"), (None, 1), (1, None), (1.0, 2), (1, 2.0), ([1], 2), (1, [2]), ((1, 2), 1),
        ((1, 2), (1, 3)), [], [1, 2], [0, 1], {}, {1: 2}, {0: 1, 1: 2}, set(), {1, 2}, b"12", range(1, 3), object(),
        int, len, ...,
    ]


def no_names():
    """Things of many kinds that are no names."""
    return [
        "", "abcdefghi", "abcdefghijklmnop", "A", "Ab", "aB", "ABC", "a1", "1", "a b", " a", "a ", " ", "a-b", "a_b",
        "_",
        ".", "a.", "a\n", "\n", "a\t", "`", "{", "a{", "a`", "@", "[", "'a'", "\u00e4", "\u00df", "a\u0131", "\u0430",
        "\u00aa", "\uff41",
        None, 0, 1, True, 1.5, b"a", b"", [], ["a"], ("a",), {}, {"a"}, object(), str, len, ...,
    ]


def no_lists():
    """Things of many kinds that are no lists."""
    gap = ("gap", (1, 1))
    return [
        None, 0, 1, 61, -1, True, False, 1.5, 1j, "", "gap 1", "gap 1; glass 2", (), (gap,), gap, (gap, gap), {},
        {0: gap}, {"gap": (1, 1)}, set(), {gap}, frozenset([gap]), b"", b"gap 1", range(0), range(3), object(), list,
        len, ..., iter([gap]), Fraction(1, 2),
    ]


def no_pieces():
    """Things of many kinds that are no pieces."""
    one = (1, 2)
    return [
        None, 0, 1, True, False, 1.5, "", "gap", "gap 1", "gap 1/2", [], ["gap", one], ["stop", one, one], {},
        {"gap": one}, {0: "gap", 1: one}, set(), (), ("gap",), ("glass",), ("stop",), ("gap", one, one),
        ("glass", one, one), ("gap", one, None), ("stop", one), ("stop", one, one, one), ("stop", (1, 1), (0, 1)),
        ("stop", (1, 2), (1, 3)), ("stop", (-1, 3), (-1, 2)), ("stop", (10 ** 40, 1), (10 ** 40 - 1, 1)),
        ("Gap", one), ("GAP", one), ("Glass", one), ("GLASS", one), ("Stop", one, one), ("STOP", one, one),
        ("gaps", one), ("gap ", one), (" gap", one), ("", one), ("lens", one), ("mirror", one), ("times", one),
        ("lens", one, one), ("gaps", one, one), (b"gap", one), (None, one), (1, one), (True, one), (("gap",), one),
        (["gap"], one), ({}, one), (one, "gap"), (one, one), one, ((1, 2), (1, 2), (1, 2)), ("gap", "glass"),
        ("gap", 1, 2), ("gap", one[0]), object(), tuple, len, ..., b"gap 1", range(2), Fraction(1, 2),
    ]


def no_benches():
    """Things of many kinds that are no benches, each with the at of its refusal."""
    gap = ("gap", (1, 1))
    things = [(thing, None) for thing in no_lists() + [[gap] * 61, [gap] * 60 + [None], [None] * 61]]
    for thing in no_pieces():
        things += [([thing, gap, None], 0), ([gap, thing, None], 1), ([gap, gap, thing], 2), ([gap, thing, thing], 1)]
    return things


def refuses_no_benches(case, ask):
    """Holds in a test case that asking of what is no bench is refused with NoBench, and its at."""
    for thing, at in no_benches():
        with case.assertRaises(NoBench, msg=repr(thing)) as taken:
            ask(thing)
        case.assertEqual(taken.exception.at, at)


def some_ratio(source, most=5):
    """A fraction by a source of numbers, 0 and whole ones often among them."""
    return told(Fraction(source.randint(-most, most), source.choice([1, 1, 2, 3, most])))


def some_piece(source, words=("gap", "glass", "stop")):
    word = source.choice(words)
    if word != "stop":
        return (word, some_ratio(source))
    ends = sorted([meant(some_ratio(source, 9)), meant(some_ratio(source, 9))])
    return ("stop", told(ends[0]), told(ends[1]))


def some_benches(seed, how_many, most_pieces, words=("gap", "glass", "stop")):
    """The same benches for the same seed."""
    source = random.Random(seed)
    return [
        [some_piece(source, words) for place in range(source.randint(0, most_pieces))] for turn in range(how_many)
    ]


def walked(bench, ray):
    """A walk in Python's own fractions, straight from the document's words."""
    height = meant(ray[0])
    slant = meant(ray[1])
    rays = [ray]
    for number, piece in enumerate(bench):
        if piece[0] == "gap":
            height = height + meant(piece[1]) * slant
        elif piece[0] == "glass":
            slant = slant - meant(piece[1]) * height
        elif not meant(piece[1]) <= height <= meant(piece[2]):
            return (rays, number)
        rays.append((told(height), told(slant)))
    return (rays, None)


def without_stops(bench):
    return [piece for piece in bench if piece[0] != "stop"]


def height_on(bench, lamp, slant, t):
    """The height of a lamp's light on a screen t behind a bench, walked as if no stop stopped any."""
    return meant(walked([("gap", lamp[1])] + without_stops(bench) + [("gap", t)], (lamp[0], told(slant)))[0][-1][0])


def table_by_walks(bench):
    """A bench's table found by walking the rays (1, 0) and (0, 1), as if no stop ever stopped."""
    (high, rise) = walked(without_stops(bench), ((1, 1), (0, 1)))[0][-1]
    (lifted, slant) = walked(without_stops(bench), ((0, 1), (1, 1)))[0][-1]
    return (high, lifted, rise, slant)


def table_told(a, b, c, d):
    """A table of numbers of Python's own."""
    return (told(a), told(b), told(c), told(d))


def some_tables(seed, how_many, most_pieces=6):
    """Tables of benches, and ones with nothing but a and d, or with b or c of 0, among them."""
    tables = [table_by_walks(bench) for bench in some_benches(seed, how_many, most_pieces)]
    for a in [Fraction(1), Fraction(-1), Fraction(2), Fraction(-3, 5)]:
        tables += [table_told(a, 0, 0, 1 / a), table_told(a, 7, 0, 1 / a), table_told(a, 0, Fraction(-1, 2), 1 / a)]
    return tables + [table_told(0, 1, -1, 0), table_told(0, Fraction(-1, 3), 3, 5), table_told(5, 3, Fraction(-1, 3), 0)]


def no_tables():
    """Things of many kinds that are no tables."""
    nought = (0, 1)
    one = (1, 1)
    tables = [
        (one, nought, nought, nought), (nought, nought, nought, nought), (one, one, one, one),
        (nought, one, one, nought),
        (one, nought, nought, (-1, 1)), ((-1, 1), nought, nought, one), ((2, 1), nought, nought, (2, 1)),
        ((2, 1), one, one, (2, 1)), (one, (1, 2), (1, 2), one), ((1, 2), nought, nought, (1, 2)),
        (one, nought, nought, (10 ** 40 + 1, 10 ** 40)),
        (), (one,), (one, nought, nought), (one, nought, one), (one, nought, nought, one, nought),
        (one, nought, nought, one, one), ((one, nought), (nought, one)), ((one, nought, nought, one),), one, nought,
        (1, 0, 0, 1), (2, 3, 1, 2), [], [one, nought, nought, one], [[one, nought], [nought, one]], {},
        {0: one, 1: nought, 2: nought, 3: one}, {one: nought}, {one, nought}, set(), "", "abcd", "1 0 0 1", None, 0,
        1, 4,
        True, False, 1.5, 1j, b"1001", range(4), object(), tuple, len, ..., Fraction(1), ("gap", one),
        [("gap", one)], ("gap", one, one, one), (None, None, None, None), (True, False, False, True),
        # These have the right sum all the same.
        ((2, 2), nought, nought, one), (one, (0, 2), nought, one), ((-1, -1), nought, nought, one),
        (one, nought, nought, (True, 1)), (one, (False, 1), nought, one), (one, nought, nought, (1, True)),
        ([1, 1], nought, nought, one), (one, nought, [0, 1], one), (1, nought, nought, 1), (one, 0, 0, one),
        (Fraction(1), Fraction(0), Fraction(0), Fraction(1)), ((1.0, 1), nought, nought, one),
        ((1, 1, 1), nought, nought, one), ((1,), nought, nought, one), (one, nought, nought, "1"),
        (one, (3, 1), nought, (4, 4)), (one, (6, 2), nought, one), (one, (-3, -1), nought, one),
    ]
    for part in no_ratios():
        tables += [(part, nought, nought, one), (one, part, nought, one), (one, nought, part, one)]
        tables += [(one, nought, nought, part), (part, part, part, part)]
    return tables


def stop_heights(bench, ray):
    """The number of each stop, and the height there of a ray that none ahead stopped, walked piece by piece."""
    heights = []
    for number, piece in enumerate(bench):
        if piece[0] == "stop":
            heights.append((number, walked(without_stops(bench[:number]), ray)[0][-1][0]))
    return heights


def no_stretches():
    """Pairs of which the first is above the last, or of which one is no fraction."""
    far = 10 ** 40
    pairs = [((1, 1), (0, 1)), ((1, 2), (1, 3)), ((-1, 3), (-1, 2)), ((far, 1), (far - 1, 1)), ((0, 1), (-1, 9))]
    for part in no_ratios():
        pairs += [(part, (5, 1)), ((-5, 1), part), (part, part)]
    return pairs


def no_boxes():
    """Things of many kinds that are no boxes."""
    low, high = (-1, 1), (1, 1)
    boxes = [
        (), (low,), (low, high), (low, high, low), (low, high, low, high, high), ((low, high), (low, high)),
        (-1, 1, -1, 1), [], [low, high, low, high], [low, high, low], {}, {0: low, 1: high, 2: low, 3: high},
        {low: high}, {low, high},
        set(), "", "abcd", "-1 1 -1 1", None, 0, 4, True, False, 1.5, 1j, b"1234", range(4), object(), tuple, len, ...,
        Fraction(1), ("stop", low, high, high), ("box", low, high, low), low,
    ]
    for first, last in no_stretches():
        boxes += [(first, last, low, high), (low, high, first, last), (first, last, first, last)]
    return boxes


def some_stretch(source, most=5):
    """Two fractions in order, alike now and then."""
    ends = sorted([meant(some_ratio(source, most)), meant(some_ratio(source, most))])
    if source.randint(0, 7) == 0:
        ends[1] = ends[0]
    return (told(ends[0]), told(ends[1]))


def some_box(source, most=5):
    return some_stretch(source, most) + some_stretch(source, most)


def turned_left(start, end, point):
    """Above 0 where a point lies to the left of the way from start to end, in numbers of Python's own."""
    return (end[0] - start[0]) * (point[1] - start[1]) - (end[1] - start[1]) * (point[0] - start[0])


def hull_of(points):
    """The corners round some points against the clock from the least on, in numbers of Python's own."""
    points = sorted(set(points))
    if len(points) < 2:
        return points
    halves = []
    for half in [points, points[::-1]]:
        chain = []
        for point in half:
            while len(chain) > 1 and turned_left(chain[-2], chain[-1], point) <= 0:
                chain.pop()
            chain.append(point)
        halves += chain[:-1]
    return halves


def lines_of(bench, box):
    """The lines x y + z u = w on which an edge of the field of a bench in a box can lie."""
    low, high, first, last = [meant(part) for part in box]
    lines = [(1, 0, low), (1, 0, high), (0, 1, first), (0, 1, last)]
    by_height = stop_heights(bench, ((1, 1), (0, 1)))
    by_slant = stop_heights(bench, ((0, 1), (1, 1)))
    for (number, x), (same, z) in zip(by_height, by_slant):
        lines += [(meant(x), meant(z), meant(end)) for end in bench[number][1:]]
    return lines


def is_in_box(box, ray):
    low, high, first, last = [meant(part) for part in box]
    return low <= meant(ray[0]) <= high and first <= meant(ray[1]) <= last


def field_by_lines(bench, box):
    """A field's corners found in another way: of all crossings of two lines, those that are let by, and the hull."""
    lines = lines_of(bench, box)
    points = []
    for number, (x, z, w) in enumerate(lines):
        for other_x, other_z, other_w in lines[:number]:
            across = x * other_z - z * other_x
            if across != 0:
                point = ((w * other_z - z * other_w) / across, (x * other_w - w * other_x) / across)
                ray = (told(point[0]), told(point[1]))
                if is_in_box(box, ray) and walked(bench, ray)[1] is None:
                    points.append(point)
    return [(told(height), told(slant)) for height, slant in hull_of(points)]
