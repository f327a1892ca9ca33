"""Which objects of a table need which cells, and what can come when: shared by the modules about orders."""

from nearslot.cells import UNKNOWN, needs
from nearslot.errors import Impossible, NoObject


def taken_cells(table):
    """Return the ascending list of the taken cells."""
    return [cell for cell, entry in enumerate(table) if entry is not None]


def needed_cells(table, cell):
    """Return the ascending tuple of the cells that the object in `cell` needs; none if there is no object."""
    wish = table[cell]
    if wish is None or wish == UNKNOWN:
        return ()
    return needs(len(table), cell, wish)


def first_gap(table):
    """Return the lowest cell whose object needs an empty cell, with the lowest such empty cell, or None."""
    for cell in taken_cells(table):
        for needed in needed_cells(table, cell):
            if table[needed] is None:
                return (cell, needed)
    return None


def need_one_another(table, one, other):
    """Return whether the objects in both cells need one another's cell."""
    return one in needed_cells(table, other) and other in needed_cells(table, one)


def first_both(table):
    """Return the first ascending pair of cells whose objects need one another's cell, or None."""
    for one in taken_cells(table):
        for other in needed_cells(table, one):
            if one < other and need_one_another(table, one, other):
                return (one, other)
    return None


def possible(table):
    """Return whether some order agrees with the table."""
    return first_gap(table) is None and first_both(table) is None


def require_possible(table):
    """Raise an error if no order agrees with the table."""
    if not possible(table):
        raise Impossible()


def require_object(table, cell):
    """Raise an error if `cell`, any integer, is not a taken cell."""
    if cell not in taken_cells(table):
        raise NoObject(cell)


def comes_after_needed(table, cell, came):
    """Return whether all cells that the object in `cell` needs are among those in `came`."""
    return all([needed in came for needed in needed_cells(table, cell)])


def first_misfit(table, cells):
    """Return the least index in `cells` of an object that comes before one that it needs, or None."""
    for place, cell in enumerate(cells):
        if not comes_after_needed(table, cell, cells[:place]):
            return place
    return None


def ready_cells(table, came):
    """Return the ascending list of the cells whose objects can come directly after those in `came`."""
    rest = [cell for cell in taken_cells(table) if cell not in came]
    return [cell for cell in rest if comes_after_needed(table, cell, came)]


def first_going_on(table, came, cells):
    """Return the first order, in ascending order, that begins with the tuple `came` and goes on to all of `cells`.

    The table is possible, and `cells` hold those in `came` and all cells that their objects need.
    """
    order = came
    # Such a beginning always goes on, so the lowest cell at each step is never a mistake.
    while len(order) < len(cells):
        order = order + ([cell for cell in ready_cells(table, order) if cell in cells][0],)
    return order
