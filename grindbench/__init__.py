"""Grindbench: a lens grinder's bench in exact fractions."""
