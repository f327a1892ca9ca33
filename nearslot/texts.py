"""Tables as texts, and integers as they are written in texts."""

from nearslot.cells import UNKNOWN
from nearslot.errors import BadText

EMPTY = "-"
DIGITS = "0123456789"


def number_in(word, most_digits):
    """Return the integer that the word writes with at most that many digits, or None."""
    # The length comes first: Python itself does not read integers of any length.
    if not 1 <= len(word) <= most_digits:
        return None
    # Digits of other scripts count as digits for Python, but not here.
    if not all([digit in DIGITS for digit in word]):
        return None
    if word.startswith("0") and word != "0":
        return None
    return int(word)


def cell_in(word, size):
    """Return the cell of a row of that size that the word writes, or None."""
    number = number_in(word, len(str(size)))
    return number if number is not None and number < size else None


def entry_text(entry):
    """Return the text of an entry of a table."""
    return EMPTY if entry is None else str(entry)


def table_text(table):
    """Return the text of a table."""
    return " ".join([entry_text(entry) for entry in table])


def table_in(text):
    """Return the table whose text is `text`."""
    words = text.split(" ")
    entries = []
    for place, word in enumerate(words):
        entry = UNKNOWN if word == UNKNOWN else cell_in(word, len(words))
        if entry is None and word != EMPTY:
            raise BadText(place)
        entries.append(entry)
    return tuple(entries)
