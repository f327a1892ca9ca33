"""Which cells can have been taken on the way to a table.

In a possible table the taken cells of some moment are exactly those sets of taken cells that hold all that their own
objects need. Needs are intervals, so such a set falls into runs of neighbouring cells that each do the same.
"""

from nearslot.cells import all_in_row
from nearslot.counting import count_between, parts_of
from nearslot.errors import NoWay, TooMany
from nearslot.limits import MOST_LISTED
from nearslot.needing import comes_after_needed, first_going_on, possible, require_possible, taken_cells


def self_contained(table, cells):
    """Return whether the cells are taken and hold all that their objects need."""
    return all([table[cell] is not None and comes_after_needed(table, cell, cells) for cell in cells])


def closed_runs(table):
    """Return the list of the runs (start, end) of neighbouring cells that are self-contained, `end` not among them."""
    return [(start, end) for start, end in parts_of(len(table)) if self_contained(table, list(range(start, end)))]


def tail_counts(size, runs):
    """Return the dict of how many views of `many` cells have none below `first`, by (first, many)."""
    counts = {}
    # A view is its first run and a view that has no cell up to the one behind that run: from right to left.
    for first in reversed(range(size + 2)):
        counts[(first, 0)] = 1
        for many in range(1, size + 1):
            fitting = [(start, end) for start, end in runs if first <= start and end - start <= many]
            counts[(first, many)] = sum([counts[(end + 1, many - end + start)] for start, end in fitting])
    return counts


def views_from(counts, runs, first, many):
    """Return the list of the views of `many` cells that have none below `first`, in any order."""
    if many == 0:
        return [()]
    found = []
    for start, end in runs:
        rest = many - end + start
        # The counts keep it from following beginnings that end nowhere.
        if first <= start and rest >= 0 and counts[(end + 1, rest)] > 0:
            behind = views_from(counts, runs, end + 1, rest)
            found.extend([tuple(range(start, end)) + cells for cells in behind])
    return found


def is_view(table, thing):
    """Return whether `thing` is a view."""
    if not all_in_row(thing, len(table)):
        return False
    rising = all([low < high for low, high in zip(thing, thing[1:])])
    return rising and possible(table) and self_contained(table, thing)


def views(table, many):
    """Return the ascending list of all views of `many` cells."""
    if not possible(table):
        return []
    runs = closed_runs(table)
    counts = tail_counts(len(table), runs)
    total = counts.get((0, many), 0)
    if total > MOST_LISTED:
        raise TooMany(total)
    return sorted(views_from(counts, runs, 0, many)) if total > 0 else []


def count_views(table):
    """Return the list of the numbers of views of 0 cells, of 1 cell, and so on."""
    sizes = list(range(len(taken_cells(table)) + 1))
    if not possible(table):
        return [0 for many in sizes]
    counts = tail_counts(len(table), closed_runs(table))
    return [counts[(0, many)] for many in sizes]


def first_hindrance(table, seen):
    """Return the least index in `seen` such that no order passes through all up to it, or None.

    The table is possible.
    """
    before = ()
    for place, cells in enumerate(seen):
        if not self_contained(table, cells) or not all([cell in cells for cell in before]):
            return place
        before = cells
    return None


def count_through(table, seen):
    """Return how many of the orders that agree pass through all tuples of cells in `seen`, in their order."""
    if not possible(table) or first_hindrance(table, seen) is not None:
        return 0
    moments = [(), *seen, taken_cells(table)]
    total = 1
    for came, cells in zip(moments, moments[1:]):
        total = total * count_between(table, came, cells)
    return total


def first_through(table, seen):
    """Return the first order, in ascending order, that agrees and passes through all tuples of cells in `seen`."""
    require_possible(table)
    place = first_hindrance(table, seen)
    if place is not None:
        raise NoWay(place)
    order = ()
    for cells in [*seen, taken_cells(table)]:
        order = first_going_on(table, order, cells)
    return order
