"""A desk: it keeps benches by names and answers rows of words."""

from grindbench.apart import taken_apart
from grindbench.errors import NoNumber, NoRow, Unknown
from grindbench.fields import field_of
from grindbench.figures import read_ratio, show_ratio
from grindbench.images import growth_of, image_of
from grindbench.lamps import slants_of
from grindbench.names import is_name
from grindbench.pieces import look_at
from grindbench.ratios import is_less
from grindbench.rings import rounds_of
from grindbench.screens import sharp_places
from grindbench.tables import NOUGHT, table_of
from grindbench.texts import read_bench, show_bench
from grindbench.turning import turned_bench
from grindbench.walks import walk_of

DONE = "ok"
NONE = "none"
# How many names, and behind them how many fractions, each row has; only a row with a TEXT is read otherwise.
ROWS = {
    "join": (3, 0),
    "turn": (2, 0),
    "show": (1, 0),
    "walk": (1, 2),
    "table": (1, 0),
    "apart": (1, 0),
    "image": (1, 1),
    "field": (1, 4),
    "sharp": (1, 5),
    "rounds": (1, 0),
}


def shown(ratios):
    """The texts of some fractions, parted by blanks."""
    return " ".join([show_ratio(one) for one in ratios])


def show_answer(bench, numbers):
    """The bench's text."""
    return show_bench(bench)


def walk_answer(bench, numbers):
    """The ray behind the bench, or the piece that stops it."""
    walk = walk_of(bench, (numbers[0], numbers[1]))
    if walk[1] is not None:
        return "stopped " + str(walk[1])
    return "by " + shown(walk[0][-1])


def table_answer(bench, numbers):
    """The bench's table."""
    return shown(table_of(bench))


def apart_answer(bench, numbers):
    """The text of the bench's table taken apart."""
    return show_bench(taken_apart(table_of(bench)))


def image_answer(bench, numbers):
    """The image's place and growth, or that there is none."""
    table = table_of(bench)
    place = image_of(table, numbers[0])
    return NONE if place is None else shown([place, growth_of(table, numbers[0])])


def field_answer(bench, numbers):
    """The corners of the bench's field in a box, or that there are none."""
    corners = field_of(bench, tuple(numbers))
    return NONE if corners == [] else ", ".join([shown(corner) for corner in corners])


def sharp_answer(bench, numbers):
    """The places at which a lamp is sharp, or that no light of it comes through."""
    lamp = (numbers[0], numbers[1])
    slants = slants_of(bench, lamp, numbers[2], numbers[3])
    if slants is None:
        return "dark"
    places = sharp_places(bench, lamp, slants, numbers[4])
    return shown(places[1:]) if len(places) > 1 else places[0]


def rounds_answer(bench, numbers):
    """After how many rounds the bench's table comes round, or that it never does."""
    rounds = rounds_of(table_of(bench))
    return "never" if rounds is None else str(rounds)


ANSWERS = {
    "show": show_answer,
    "walk": walk_answer,
    "table": table_answer,
    "apart": apart_answer,
    "image": image_answer,
    "field": field_answer,
    "sharp": sharp_answer,
    "rounds": rounds_answer,
}


def look_at_name(word):
    """Refuses a row's word that is no name."""
    if not is_name(word):
        raise NoRow("a name has one to eight small letters")


def read_number(word):
    """The fraction that a row's word writes."""
    try:
        return read_ratio(word)
    except NoNumber:
        raise NoRow("a number of a row is a fraction in lowest terms") from None


def read_row(words):
    """The names and the fractions of a row, as two lists."""
    form = ROWS.get(words[0])
    if form is None or len(words) != 1 + form[0] + form[1]:
        raise NoRow("a row has its first word, and behind it as many words as it asks for")
    names = words[1:1 + form[0]]
    for name in names:
        look_at_name(name)
    numbers = [read_number(word) for word in words[1 + form[0]:]]
    if words[0] == "sharp" and is_less(numbers[4], NOUGHT):
        raise NoRow("a most is from 0 on")
    return (names, numbers)


class Desk:
    """A desk with the benches that were laid on it."""

    def __init__(self):
        self.benches = {}

    def say(self, row):
        """The answer to a row."""
        if not isinstance(row, str):
            raise NoRow("a row is a text")
        words = row.split(" ")
        if words[0] == "bench":
            return self.lay(row)
        read = read_row(words)
        names = read[0]
        if words[0] == "join":
            return self.keep(names[0], self.bench_by(names[1]) + self.bench_by(names[2]))
        if words[0] == "turn":
            return self.keep(names[0], turned_bench(self.bench_by(names[1])))
        return ANSWERS[words[0]](self.bench_by(names[0]), read[1])

    def lay(self, row):
        """Lays the bench that a row writes."""
        # The text has blanks of its own, so that only the first two part words.
        words = row.split(" ", 2)
        if len(words) != 3:
            raise NoRow("a bench has a name and, behind a blank, its text")
        look_at_name(words[1])
        return self.keep(words[1], read_bench(words[2]))

    def bench_by(self, name):
        """The bench that stands by a name."""
        if name not in self.benches:
            raise Unknown("no bench stands by this name")
        return self.benches[name]

    def keep(self, name, bench):
        """Lets a bench stand by a name from now on."""
        # Two benches joined can be too long for one.
        look_at(bench)
        self.benches[name] = bench
        return DONE
