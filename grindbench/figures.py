"""Fractions as texts: written by figures, and read just as they are written."""

from grindbench.errors import NoNumber
from grindbench.ratios import is_ratio

FIGURES = "0123456789"
MOST_FIGURES = 15


def show_ratio(one):
    """The text that writes a fraction."""
    top = one[0]
    bottom = one[1]
    if bottom == 1:
        return str(top)
    return f"{top}/{bottom}"


def read_part(text):
    """The number from 0 on that one to fifteen figures write."""
    # int takes blanks, signs, underscores and other alphabets' figures too, so all signs are looked at first.
    if not 1 <= len(text) <= MOST_FIGURES or not all([sign in FIGURES for sign in text]):
        raise NoNumber("a part of a fraction has one to fifteen figures")
    return int(text)


def read_ratio(text):
    """The fraction that a text writes."""
    if not isinstance(text, str):
        raise NoNumber("a fraction is read from a text")
    is_below = text.startswith("-")
    parts = text[1:].split("/") if is_below else text.split("/")
    if len(parts) > 2:
        raise NoNumber("a fraction has one stroke at most")
    top = read_part(parts[0])
    bottom = read_part(parts[1]) if len(parts) == 2 else 1
    one = (0 - top if is_below else top, bottom)
    # Each fraction is written in one way alone: this refuses noughts ahead, -0 and a written bottom of 1.
    if not is_ratio(one) or show_ratio(one) != text:
        raise NoNumber("a fraction is written in lowest terms and in no longer way than needed")
    return one
