"""Fields: the rays of a box that go by all stops of a bench, told by their corners."""

from grindbench.boxes import look_at_box
from grindbench.limits import limits_of
from grindbench.ratios import is_less, less_by, product_of, quotient_of, sum_of
from grindbench.tables import NOUGHT


def is_before(one, other):
    """Whether the one ray is the lesser, by height, then by slant."""
    if one[0] != other[0]:
        return is_less(one[0], other[0])
    return is_less(one[1], other[1])


def turn_of(start, end, ray):
    """Above 0 where the ray lies to the left of the way from start to end, below 0 to the right, 0 on its line."""
    up = product_of(less_by(end[0], start[0]), less_by(ray[1], start[1]))
    along = product_of(less_by(end[1], start[1]), less_by(ray[0], start[0]))
    return less_by(up, along)


def corners_of(box):
    """The corners of a box against the clock, each one once."""
    corners = []
    for corner in [(box[0], box[2]), (box[1], box[2]), (box[1], box[3]), (box[0], box[3])]:
        # A box without breadth or height has fewer corners than four.
        if corner not in corners:
            corners.append(corner)
    return corners


def edges_of(limit):
    """The two edges (a, b, c) of a stop: it lets by what has a y + b u + c from 0 on, by both."""
    a = limit[1]
    b = limit[2]
    above = (a, b, less_by(NOUGHT, limit[3]))
    below = (less_by(NOUGHT, a), less_by(NOUGHT, b), limit[4])
    return [above, below]


def room_at(edge, ray):
    """How far a ray is on the side of an edge that is let by; below 0 on the other side."""
    return sum_of(sum_of(product_of(edge[0], ray[0]), product_of(edge[1], ray[1])), edge[2])


def crossing_of(one, other, one_room, other_room):
    """The ray on the way from one to the other at which an edge is, by the room that both have."""
    part = quotient_of(one_room, less_by(one_room, other_room))
    height = sum_of(one[0], product_of(part, less_by(other[0], one[0])))
    slant = sum_of(one[1], product_of(part, less_by(other[1], one[1])))
    return (height, slant)


def cut_by(edge, corners):
    """The corners of what an edge leaves of a field, in the same order."""
    # A corner stays one when something is cut off, and each crossing becomes one: none ever lies between two others.
    rooms = [room_at(edge, corner) for corner in corners]
    left = []
    for number, corner in enumerate(corners):
        # Ahead of the first corner comes the last one, which is what -1 tells.
        before = number - 1
        if rooms[before][0] * rooms[number][0] < 0:
            crossing = crossing_of(corners[before], corner, rooms[before], rooms[number])
            # A field that is a line is gone along there and back, so its crossing is met twice.
            if crossing not in left:
                left.append(crossing)
        if rooms[number][0] >= 0:
            left.append(corner)
    return left


def from_the_least(corners):
    """The same corners in the same order round, from the least on."""
    least = 0
    for number, corner in enumerate(corners):
        if is_before(corner, corners[least]):
            least = number
    return corners[least:] + corners[:least]


def field_of(bench, box):
    """The corners of the field of a bench in a box."""
    limits = limits_of(bench)
    look_at_box(box)
    corners = corners_of(box)
    for limit in limits:
        for edge in edges_of(limit):
            corners = cut_by(edge, corners)
    return from_the_least(corners)


def is_within(corners, ray):
    """Whether a ray is within the field that has these corners."""
    if len(corners) < 2:
        return ray in corners
    for number, corner in enumerate(corners):
        if is_less(turn_of(corners[number - 1], corner, ray), NOUGHT):
            return False
    if len(corners) > 2:
        return True
    # To the left of the way there and of the way back is the whole line, beyond its ends too.
    return not is_before(ray, corners[0]) and not is_before(corners[1], ray)


def size_of(corners):
    """The area of the field that has these corners."""
    twice = NOUGHT
    for number, corner in enumerate(corners):
        before = corners[number - 1]
        twice = sum_of(twice, less_by(product_of(before[0], corner[1]), product_of(before[1], corner[0])))
    return quotient_of(twice, (2, 1))
