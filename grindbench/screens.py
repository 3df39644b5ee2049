"""Screens: the places behind a bench at which a lamp's light is sharp."""

from grindbench.boxes import look_at_stretch
from grindbench.images import image_of, spread_of
from grindbench.lamps import blur_of, greater_of, lesser_of, slants_of
from grindbench.pieces import look_at
from grindbench.ratios import is_less, less_by, product_of, quotient_of, sum_of
from grindbench.tables import NOUGHT, table_of

NOWHERE = ("none",)
EVERYWHERE = ("all",)
FROM = "from"


def sharp_places(bench, lamp, slants, most):
    """The places of a screen at which a lamp's blur is at most the most."""
    table = table_of(bench)
    growing = product_of(spread_of(table, lamp[1])[1], less_by(slants[1], slants[0]))
    if growing == NOUGHT:
        # The blur is the same at all places, as the light is one ray or leaves with one slant.
        return NOWHERE if is_less(most, blur_of(bench, lamp, slants, NOUGHT)) else EVERYWHERE
    if is_less(most, NOUGHT):
        return NOWHERE
    # From the lamp's image on, where it is 0, the blur grows evenly to both sides.
    middle = image_of(table, lamp[1])
    reach = quotient_of(most, (abs(growing[0]), growing[1]))
    return (FROM, less_by(middle, reach), sum_of(middle, reach))


def places_in_both(one, other):
    """The places that are among the one's and among the other's."""
    if one == EVERYWHERE or other == NOWHERE:
        return other
    if other == EVERYWHERE or one == NOWHERE:
        return one
    start = greater_of(one[1], other[1])
    end = lesser_of(one[2], other[2])
    return NOWHERE if is_less(end, start) else (FROM, start, end)


def sharp_for_all(bench, lamps, first, last, most):
    """The places that are sharp for each lamp whose light comes through."""
    look_at(bench)
    # Looked at here, too: with no lamps nothing else would.
    look_at_stretch(first, last)
    places = EVERYWHERE
    for lamp in lamps:
        slants = slants_of(bench, lamp, first, last)
        if slants is not None:
            places = places_in_both(places, sharp_places(bench, lamp, slants, most))
    return places
