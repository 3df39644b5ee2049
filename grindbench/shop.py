"""A grinder's shop: a stock of glasses, and the fewest of them that do what is wished."""

from grindbench.errors import NoBench, NoStock, NoWish
from grindbench.images import growth_of, image_of
from grindbench.names import is_name
from grindbench.pieces import GAP, GLASS
from grindbench.ratios import is_ratio
from grindbench.tables import NOUGHT, is_table, joined, table_of

MOST_KINDS = 4
MOST_GAPS = 5
NO_GLASS = ""
TABLE = "table"
IMAGE = "image"
GROWN = "grown"


def is_kind(thing):
    """Whether thing is a kind of glasses (name, strength)."""
    if not isinstance(thing, tuple) or len(thing) != 2:
        return False
    return is_name(thing[0]) and is_ratio(thing[1]) and thing[1] != NOUGHT


def is_stock(thing):
    """Whether thing is a list of one to four kinds of glasses, no two of one name."""
    if not isinstance(thing, list) or not 1 <= len(thing) <= MOST_KINDS:
        return False
    if not all([is_kind(kind) for kind in thing]):
        return False
    return len(set([kind[0] for kind in thing])) == len(thing)


def look_at_gaps(gaps):
    """Refuses what is no list of one to five fractions."""
    if not isinstance(gaps, list) or not 1 <= len(gaps) <= MOST_GAPS or not all([is_ratio(gap) for gap in gaps]):
        raise NoBench(None)


def is_wish(thing):
    """Whether thing is a wish."""
    if not isinstance(thing, tuple) or len(thing) < 2 or not isinstance(thing[0], str):
        return False
    if thing[0] == TABLE:
        return len(thing) == 2 and is_table(thing[1])
    if thing[0] == IMAGE:
        return len(thing) == 2 and is_ratio(thing[1])
    return thing[0] == GROWN and len(thing) == 3 and is_ratio(thing[1]) and is_ratio(thing[2])


def does(table, wish):
    """Whether a bench with this table does what is wished."""
    if wish[0] == TABLE:
        return table == wish[1]
    if image_of(table, wish[1]) != NOUGHT:
        return False
    return wish[0] == IMAGE or growth_of(table, wish[1]) == wish[2]


def glasses_in(choice):
    """How many slots of a choice have a glass."""
    return len(choice) - choice.count(NO_GLASS)


class Shop:
    """A shop with a stock of one to four kinds of glasses, of each kind enough."""

    def __init__(self, stock):
        if not is_stock(stock):
            raise NoStock("a stock is a list of one to four kinds (name, strength), no two of one name")
        # The shop's own list, so that nothing done to the handed one changes it.
        self.stock = list(stock)

    def kinds(self):
        """The stock's kinds."""
        return list(self.stock)

    def pieces_for(self, name):
        """The pieces in a slot: the glass of this name, or none."""
        return [(GLASS, kind[1]) for kind in self.stock if kind[0] == name]

    def bench_for(self, gaps, choice):
        """The bench of a choice: all gaps, and the glasses in the slots between them."""
        look_at_gaps(gaps)
        bench = [(GAP, gaps[0])]
        for name, gap in zip(choice, gaps[1:]):
            bench.extend(self.pieces_for(name))
            bench.append((GAP, gap))
        return bench

    def tables_for(self, gaps):
        """All choices for these gaps, each as (choice, the table of its bench)."""
        names = [NO_GLASS] + [kind[0] for kind in self.stock]
        found = [([], table_of([(GAP, gaps[0])]))]
        for gap in gaps[1:]:
            # Choices that begin alike go on from one table, so that few tables are reckoned.
            steps = [(name, table_of(self.pieces_for(name) + [(GAP, gap)])) for name in names]
            longer = []
            for choice, table in found:
                for name, step in steps:
                    longer.append((choice + [name], joined(table, step)))
            found = longer
        return found

    def fewest(self, gaps, wish):
        """A choice with the fewest glasses that does what is wished, or None where none does."""
        look_at_gaps(gaps)
        if not is_wish(wish):
            raise NoWish("a wish is for a table, an image at 0, or such an image and its growth")
        doing = [choice for choice, table in self.tables_for(gaps) if does(table, wish)]
        return min(doing, key=glasses_in, default=None)
