"""Which tables arise from given wishes, in whatever order these are put in."""

from nearslot.cells import UNKNOWN, is_table, put_into
from nearslot.needing import possible, taken_cells


def wishes_in(table):
    """Return the ascending list of the wishes of a table without unknown ones."""
    return sorted([entry for entry in table if entry is not None])


def is_outcome(size, wishes, thing):
    """Return whether `thing` is a table that arises."""
    if not is_table(thing) or len(thing) != size or UNKNOWN in thing:
        return False
    return wishes_in(thing) == sorted(wishes) and possible(thing)


def without(wishes, gone):
    """Return the list of the wishes without those that are gone, one for one."""
    rest = list(wishes)
    for wish in gone:
        rest.remove(wish)
    return rest


def next_tables(tables, wishes):
    """Return the list of the different tables that arise if one more of the wishes is put into each table."""
    found = {}
    for table in tables:
        for wish in without(wishes, wishes_in(table)):
            found[put_into(table, [wish])[0]] = True
    return list(found)


def sorting_key(table):
    """Return what tables are sorted by: None is taken for -1."""
    return tuple([-1 if entry is None else entry for entry in table])


def outcomes(size, wishes):
    """Return the ascending list of all tables that arise, if None is taken for -1."""
    tables = [(None,) * size]
    # Many orders pass through the same tables, so it goes by tables and not by orders.
    for step in range(len(wishes)):
        tables = next_tables(tables, wishes)
    return sorted(tables, key=sorting_key)


def outcome_counts(size, wishes):
    """Return the ascending list of the pairs of a tuple of taken cells and the number of tables that take them."""
    counts = {}
    for table in outcomes(size, wishes):
        taken = tuple(taken_cells(table))
        counts[taken] = counts.get(taken, 0) + 1
    return sorted([(taken, counts[taken]) for taken in counts])
