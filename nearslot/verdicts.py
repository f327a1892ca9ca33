"""Whether a table is possible: an order that agrees with it, or the reason why there is none."""

from nearslot.cells import all_in_row
from nearslot.needing import (
    first_both,
    first_gap,
    first_going_on,
    first_misfit,
    need_one_another,
    needed_cells,
    taken_cells,
)


def verdict(table):
    """Return ("order", order), ("gap", cell, empty) or ("both", one, other)."""
    gap = first_gap(table)
    if gap is not None:
        return ("gap", gap[0], gap[1])
    both = first_both(table)
    if both is not None:
        return ("both", both[0], both[1])
    return ("order", first_going_on(table, (), taken_cells(table)))


def shows_order(table, thing):
    """Return whether `thing` is an order that agrees with the table."""
    if not all_in_row(thing, len(table)):
        return False
    return sorted(thing) == taken_cells(table) and first_misfit(table, thing) is None


def shows_gap(table, thing):
    """Return whether `thing` is a pair of a cell whose object needs an empty cell, and such an empty cell."""
    if not pair_in_row(thing, len(table)):
        return False
    cell, empty = thing
    return table[empty] is None and empty in needed_cells(table, cell)


def shows_both(table, thing):
    """Return whether `thing` is a pair of cells, in any order, whose objects need one another's cell."""
    if not pair_in_row(thing, len(table)):
        return False
    one, other = thing
    return need_one_another(table, one, other)


def pair_in_row(thing, size):
    """Return whether `thing` is a pair of cells of a row of that size."""
    return all_in_row(thing, size) and len(thing) == 2
