"""Benches as texts: pieces parted by semicolons, and rounds that stand for their pieces some times over."""

from grindbench.errors import NoNumber, NoText
from grindbench.figures import read_ratio, show_ratio
from grindbench.pieces import GAP, GLASS, MOST_PIECES, STOP, is_piece, look_at

PARTED = ";"
TIMES = "times"
OPENED = "("
CLOSED = ")"
MOST_TIMES = 60
MOST_DEEP = 4


class Reader:
    """The words of a text, taken one behind the other."""

    def __init__(self, words):
        self.words = words
        self.place = 0

    def is_done(self):
        """Whether all words are taken."""
        return self.place == len(self.words)

    def take(self):
        """The next word."""
        if self.is_done():
            raise NoText("the text ends too soon")
        self.place += 1
        return self.words[self.place - 1]

    def take_if(self, word):
        """Whether the next word is this one; only then it is taken."""
        if self.is_done() or self.words[self.place] != word:
            return False
        self.place += 1
        return True


def words_of(text):
    """The words between a text's blanks, with the semicolon at a word's end as a word of its own."""
    # A blank too many gives a word without signs, which no reading takes; so does a semicolon by itself.
    words = []
    for word in text.split(" "):
        if word.endswith(PARTED):
            words.append(word[:-1])
            words.append(PARTED)
        else:
            words.append(word)
    return words


def read_number(word):
    """The fraction that a word of a bench's text writes."""
    try:
        return read_ratio(word)
    except NoNumber:
        raise NoText("a piece's word is followed by its fractions") from None


def read_times(word):
    """How many times a round is gone."""
    for times in range(MOST_TIMES + 1):
        if word == str(times):
            return times
    raise NoText("a piece begins with its word, a round with a number from 0 to 60")


def read_round(reader, word, deep):
    """The round that begins with this word, as (TIMES, how many times, its parts)."""
    times = read_times(word)
    if deep == MOST_DEEP:
        raise NoText("rounds stand within one another at most four deep")
    if not reader.take_if(TIMES) or not reader.take_if(OPENED):
        raise NoText("a round has its pieces in brackets behind its number")
    parts = read_parts(reader, deep + 1)
    if not reader.take_if(CLOSED):
        raise NoText("a round ends with its bracket")
    return (TIMES, times, parts)


def read_part(reader, deep):
    """The next part, a piece's tuple or a round, with this many rounds around it."""
    word = reader.take()
    if word == GAP or word == GLASS:
        return (word, read_number(reader.take()))
    if word != STOP:
        return read_round(reader, word, deep)
    low = read_number(reader.take())
    high = read_number(reader.take())
    if not is_piece((STOP, low, high)):
        raise NoText("a stop is told from low to high")
    return (STOP, low, high)


def read_parts(reader, deep):
    """One part or more, up to what is no part of theirs."""
    parts = [read_part(reader, deep)]
    while reader.take_if(PARTED):
        parts.append(read_part(reader, deep))
    return parts


def count_of(parts):
    """How many pieces these parts would have, all rounds told out."""
    count = 0
    for part in parts:
        count += part[1] * count_of(part[2]) if part[0] == TIMES else 1
    return count


def told_out(parts):
    """The pieces of these parts, all rounds told out."""
    pieces = []
    for part in parts:
        if part[0] != TIMES:
            pieces.append(part)
        elif part[1] > 0:
            # What is gone 0 times may be of any length within, so it is not told out at all.
            pieces.extend(told_out(part[2]) * part[1])
    return pieces


def read_bench(text):
    """The bench that a text writes."""
    if not isinstance(text, str):
        raise NoText("a bench is read from a text")
    if text == "":
        return []
    reader = Reader(words_of(text))
    parts = read_parts(reader, 0)
    if not reader.is_done():
        raise NoText("pieces are parted by a semicolon and a blank")
    # Counted ahead of being told out: a short text can stand for millions of pieces.
    if count_of(parts) > MOST_PIECES:
        raise NoText("a bench has at most sixty pieces")
    return told_out(parts)


def show_piece(piece):
    """The text of one piece."""
    return " ".join([piece[0]] + [show_ratio(part) for part in piece[1:]])


def show_bench(bench):
    """The text that writes a bench, without rounds."""
    look_at(bench)
    return "; ".join([show_piece(piece) for piece in bench])
