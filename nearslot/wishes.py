"""What unknown wishes can have been: histories, which are orders together with a wish for each object.

Histories are counted over parts as in counting.py. When an object comes as the last one of a part, the objects of the
part are there and those directly beside the part are not, so its wish can be any one whose span lies within the part.
"""

from nearslot.cells import UNKNOWN
from nearslot.counting import count_with_last, parts_of, span, within_part
from nearslot.needing import needed_cells, require_object, require_possible, taken_cells


def wish_choices(table, cell):
    """Return the list of the wishes that the object could have by the table's entry alone."""
    return list(range(len(table))) if table[cell] == UNKNOWN else [table[cell]]


def choice_spans(table, row, at):
    """Return the spans of object `at` of the row of taken cells, one for each wish that needs no empty cell."""
    spans = []
    for wish in wish_choices(table, row[at]):
        known = with_wish(table, row[at], wish)
        if all([table[needed] is not None for needed in needed_cells(known, row[at])]):
            spans.append(span(known, row, at))
    return spans


def histories_of_part(choices, counts, first, end):
    """Return how many histories the part has; `counts` has those of smaller parts."""
    total = 0
    for last in range(first, end):
        wishes = [own for own in choices[last] if within_part(own, first, end)]
        total += len(wishes) * count_with_last(counts, first, last, end)
    return total


def count_histories(table):
    """Return how many histories there are."""
    row = taken_cells(table)
    choices = [choice_spans(table, row, at) for at in range(len(row))]
    counts = {(first, first): 1 for first in range(len(row) + 1)}
    for first, end in parts_of(len(row)):
        counts[(first, end)] = histories_of_part(choices, counts, first, end)
    return counts[(0, len(row))]


def wish_counts(table, cell):
    """Return the ascending list of the pairs of a wish that the object can have, and the number of histories."""
    # Without an order there is no history, and with one there is: each unknown wish can be the object's own cell.
    require_possible(table)
    require_object(table, cell)
    pairs = [(wish, count_histories(with_wish(table, cell, wish))) for wish in wish_choices(table, cell)]
    return [(wish, many) for wish, many in pairs if many > 0]


def with_wish(table, cell, wish):
    """Return the table in which the wish of the object in `cell` is `wish`."""
    require_object(table, cell)
    return tuple([wish if place == cell else entry for place, entry in enumerate(table)])
