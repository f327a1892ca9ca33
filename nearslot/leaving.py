"""Which objects can be taken out of a table, and in which batches they can have come."""

from nearslot.errors import Needed
from nearslot.needing import needed_cells, ready_cells, require_object, require_possible, taken_cells


def needed_by(table, cell):
    """Return the ascending tuple of the cells whose objects need the cell."""
    return tuple([other for other in taken_cells(table) if cell in needed_cells(table, other)])


def can_leave(table):
    """Return the ascending list of the taken cells that no object needs."""
    return [cell for cell in taken_cells(table) if needed_by(table, cell) == ()]


def left(table, cell):
    """Return the table without the object in the cell."""
    require_object(table, cell)
    if needed_by(table, cell) != ():
        raise Needed(cell)
    return tuple([None if place == cell else entry for place, entry in enumerate(table)])


def batches(table):
    """Return the list of ascending lists of cells: each object comes in the first batch that it can come in."""
    require_possible(table)
    found = []
    came = []
    while len(came) < len(taken_cells(table)):
        batch = ready_cells(table, came)
        found.append(batch)
        came = came + batch
    return found
