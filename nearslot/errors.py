"""The errors of the package.

The messages are fixed words: a field may have any value, and not every value can be written out.
"""


class Misfit(ValueError):
    """An order does not agree with a table; it fails at the index `place`."""

    def __init__(self, place):
        ValueError.__init__(self, "the order does not agree with the table")
        self.place = place


class Impossible(ValueError):
    """No order agrees with the table."""

    def __init__(self):
        ValueError.__init__(self, "no order agrees with the table")


class BadText(ValueError):
    """The text is not that of a table; the entry with the index `entry` is wrong."""

    def __init__(self, entry):
        ValueError.__init__(self, "the text is not that of a table")
        self.entry = entry


class BadLine(ValueError):
    """The line with the index `line` is not written as it must be."""

    def __init__(self, line):
        ValueError.__init__(self, "a line is not written as it must be")
        self.line = line


class NoObject(LookupError):
    """There is no object in `cell`."""

    def __init__(self, cell):
        LookupError.__init__(self, "there is no object in the cell")
        self.cell = cell


class NoOrder(LookupError):
    """No order has the number `number`."""

    def __init__(self, number):
        LookupError.__init__(self, "no order has that number")
        self.number = number


class NoState(LookupError):
    """There is no state after `many` operations."""

    def __init__(self, many):
        LookupError.__init__(self, "there is no state after that many operations")
        self.many = many


class NoWay(RuntimeError):
    """No order passes through all that was seen up to the index `place`."""

    def __init__(self, place):
        RuntimeError.__init__(self, "no order passes through all that was seen")
        self.place = place


class Needed(RuntimeError):
    """An object needs `cell`, so the object in it stays."""

    def __init__(self, cell):
        RuntimeError.__init__(self, "an object needs the cell")
        self.cell = cell


class TooMany(OverflowError):
    """There are `many` results, more than are listed."""

    def __init__(self, many):
        OverflowError.__init__(self, "there are more results than are listed")
        self.many = many


class Full(OverflowError):
    """The row of `many` cells has too few free cells."""

    def __init__(self, many):
        OverflowError.__init__(self, "the row has too few free cells")
        self.many = many
