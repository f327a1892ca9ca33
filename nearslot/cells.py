"""Cells and tables: what a table is, and where objects are put."""

from nearslot.errors import Full

UNKNOWN = "?"


def is_table(thing):
    """Return whether `thing` is a table."""
    if not isinstance(thing, tuple):
        return False
    size = len(thing)
    # A list for `all`, not a generator: L7 asks for that once a class of the package has __eq__.
    return size > 0 and all([fits_row(entry, size) for entry in thing])


def fits_row(entry, size):
    """Return whether `entry` can stand in a table of that size."""
    if entry is None:
        return True
    if isinstance(entry, str):
        return entry == UNKNOWN
    return in_row(entry, size)


def in_row(thing, size):
    """Return whether `thing` is a cell of a row of that size."""
    # True and False are Python integers, but never cells.
    return isinstance(thing, int) and not isinstance(thing, bool) and 0 <= thing < size


def all_in_row(thing, size):
    """Return whether `thing` is a tuple of cells of a row of that size."""
    return isinstance(thing, tuple) and all([in_row(cell, size) for cell in thing])


def nearness(cell, wish):
    """Return a key that is less for a cell that is nearer to the wish."""
    return (abs(cell - wish), cell)


def needs(size, cell, wish):
    """Return the ascending tuple of the cells that an object in `cell` with `wish` needs."""
    own = nearness(cell, wish)
    return tuple([other for other in range(size) if nearness(other, wish) < own])


def nearest(table, wish):
    """Return the free cell that is nearest to the wish."""
    free = [cell for cell, entry in enumerate(table) if entry is None]
    if not free:
        raise Full(len(table))
    return min(free, key=lambda cell: nearness(cell, wish))


def put_into(table, wishes):
    """Return the table after objects are put into it one after the other, and the list of their cells."""
    row = list(table)
    cells = []
    for wish in wishes:
        cell = nearest(row, wish)
        row[cell] = wish
        cells.append(cell)
    return (tuple(row), cells)


def cells_of(size, wishes):
    """Return the tuple of the cells of objects that are put into an empty row one after the other."""
    return tuple(put_into((None,) * size, wishes)[1])


def filled(size, wishes):
    """Return the table after objects are put into an empty row one after the other."""
    return put_into((None,) * size, wishes)[0]
