"""Limits: what each stop of a bench asks of a ray as it is ahead of the bench."""

from grindbench.pieces import STOP, look_at, piece_of
from grindbench.tables import NOUGHT, ONE


def limits_of(bench):
    """For each stop (number, a, b, low, high): a ray (y, u) comes to it with the height a y + b u."""
    look_at(bench)
    limits = []
    # Heights of all rays are made of these two rays' heights, as nothing but sums and products bends a ray.
    high = (ONE, NOUGHT)
    slanted = (NOUGHT, ONE)
    for number, told in enumerate(bench):
        if told[0] == STOP:
            limits.append((number, high[0], slanted[0], told[1], told[2]))
        piece = piece_of(told)
        high = piece.bent(high)
        slanted = piece.bent(slanted)
    return limits
