"""Rays walked through a bench piece by piece."""

from grindbench.pieces import look_at, piece_of


def walk_of(bench, ray):
    """The rays ahead of the first piece and behind each piece, and the number of the piece that stops it, or None."""
    look_at(bench)
    rays = [ray]
    for number, told in enumerate(bench):
        piece = piece_of(told)
        if not piece.lets(ray):
            return (rays, number)
        ray = piece.bent(ray)
        rays.append(ray)
    return (rays, None)


def goes_by(bench, ray):
    """Whether no piece stops the ray."""
    return walk_of(bench, ray)[1] is None


def ray_behind(bench, ray):
    """The ray behind the last piece, or None where it is stopped."""
    walk = walk_of(bench, ray)
    return walk[0][-1] if walk[1] is None else None
