"""The refusals: one class for each, all under BenchError, none under another one."""


class BenchError(ValueError):
    """Any refusal."""


class NoNumber(BenchError):
    """What was handed in makes, or writes, no fraction."""


class NoText(BenchError):
    """What was handed in writes no bench."""


class NoTable(BenchError):
    """What was handed in is no table."""


class NoBox(BenchError):
    """What was handed in is no box, or no stretch of slants."""


class NoStock(BenchError):
    """What was handed in is no stock of a shop."""


class NoWish(BenchError):
    """What was handed in is no wish to a shop."""


class NoRow(BenchError):
    """What was handed in is no row that a desk answers."""


class Unknown(BenchError):
    """No bench stands by this name."""


class NoBench(BenchError):
    """What was handed in is no bench: at is the number of the first thing that is no piece, or None."""

    def __init__(self, at):
        BenchError.__init__(self, at)
        self.at = at
