"""Benches and tables turned about, for light that is sent back."""

from grindbench.pieces import look_at
from grindbench.tables import look_at_table


def turned_bench(bench):
    """The bench with its pieces from the last to the first."""
    look_at(bench)
    return list(reversed(bench))


def turned_table(table):
    """The table of the bench turned about."""
    look_at_table(table)
    # Undoing changes the signs of b and c, and slants counted the other way about change them back.
    return (table[3], table[1], table[2], table[0])
