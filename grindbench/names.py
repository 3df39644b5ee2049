"""Names: of kinds of glasses in a shop, and of benches on a desk."""

LETTERS = "abcdefghijklmnopqrstuvwxyz"
MOST_LETTERS = 8


def is_name(thing):
    """Whether thing is a text of one to eight small letters."""
    if not isinstance(thing, str) or not 1 <= len(thing) <= MOST_LETTERS:
        return False
    return all([sign in LETTERS for sign in thing])
