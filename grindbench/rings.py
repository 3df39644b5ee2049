"""Rings: benches that are gone round, behind the last piece the first one again."""

from grindbench.pieces import look_at
from grindbench.ratios import less_by, product_of, sum_of
from grindbench.tables import LEAVING, NOUGHT, joined, look_at_table
from grindbench.walks import ray_behind

MOST_ROUNDS_OF_FRACTIONS = 6


def form_of(table):
    """The form (p, q, r): p y y + q y u + r u u is the same for a ray and for that ray behind the table."""
    look_at_table(table)
    return (table[2], less_by(table[3], table[0]), less_by(NOUGHT, table[1]))


def told_by(form, ray):
    """What a form tells of a ray."""
    by_height = sum_of(product_of(form[0], ray[0]), product_of(form[1], ray[1]))
    return sum_of(product_of(by_height, ray[0]), product_of(product_of(form[2], ray[1]), ray[1]))


def rounds_of(table):
    """The least number of rounds from 1 on that leaves each ray as it is, or None where none does."""
    look_at_table(table)
    # A table that comes round has as a + d twice the cosine of a part of a turn. Of these only -2, -1, 0, 1 and 2
    # are fractions, so that a table of fractions comes round after 1, 2, 3, 4 or 6 times or never.
    power = LEAVING
    for rounds in range(1, MOST_ROUNDS_OF_FRACTIONS + 1):
        power = joined(power, table)
        if power == LEAVING:
            return rounds
    return None


def rounds_gone(bench, ray, most):
    """How many times a ray comes through the whole bench before a stop stops it, at most the most."""
    look_at(bench)
    for gone in range(most):
        ray = ray_behind(bench, ray)
        if ray is None:
            return gone
    return most
