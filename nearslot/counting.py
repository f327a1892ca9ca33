"""How many orders agree with a table, and which number each of them has.

Orders are counted over parts. The objects are numbered from left to right, and the part (first, end) holds those from
`first` up to, but without, `end`. The last object of a part divides the others into those to its left and those to
its right. Neither side needs anything of the other one, as such a need is an interval and would reach over the last
object. So the orders of the two sides are counted apart and merged in every way.
"""

from nearslot.errors import Misfit, NoOrder, TooMany
from nearslot.limits import MOST_LISTED
from nearslot.needing import first_misfit, needed_cells, possible, ready_cells, taken_cells


def choose(many, some):
    """Return in how many ways `some` of `many` things can be chosen."""
    ways = 1
    for at in range(some):
        ways = ways * (many - at) // (at + 1)
    return ways


def span(table, rest, at):
    """Return the least part of the objects in `rest` that holds the one at `at` and all that it needs of them."""
    needed = needed_cells(table, rest[at])
    within = [place for place, cell in enumerate(rest) if place == at or cell in needed]
    return (within[0], within[-1] + 1)


def spans_of(table, rest):
    """Return the list of the spans of the objects in `rest`, an ascending list of cells."""
    return [span(table, rest, at) for at in range(len(rest))]


def within_part(own, first, end):
    """Return whether the span `own` lies within the part (first, end)."""
    return first <= own[0] and own[1] <= end


def lasts(spans, first, end):
    """Return the objects of the part that can be its last one while those beside the part come later."""
    return [at for at in range(first, end) if within_part(spans[at], first, end)]


def count_with_last(counts, first, last, end):
    """Return how many orders the part has in which `last` comes last."""
    return choose(end - first - 1, last - first) * counts[(first, last)] * counts[(last + 1, end)]


def parts_of(many):
    """Return the parts of `many` objects that are not empty, the smaller ones first."""
    return [(first, first + size) for size in range(1, many + 1) for first in range(many - size + 1)]


def part_counts(spans):
    """Return the dict of all parts: how many orders each one has."""
    counts = {(first, first): 1 for first in range(len(spans) + 1)}
    for first, end in parts_of(len(spans)):
        counts[(first, end)] = sum([count_with_last(counts, first, at, end) for at in lasts(spans, first, end)])
    return counts


def count_between(table, came, cells):
    """Return in how many orders the objects in `cells` can come after those in `came`, before all others.

    The table is possible, and each of `came` and `cells` holds all cells that its objects need.
    """
    rest = [cell for cell in cells if cell not in came]
    return part_counts(spans_of(table, rest))[(0, len(rest))]


def count_rest(table, came):
    """Return how many orders of a possible table begin with the beginning `came`."""
    return count_between(table, came, taken_cells(table))


def starts_order(table, cells):
    """Return whether some order that agrees begins with the cells."""
    return possible(table) and first_misfit(table, cells) is None


def count_orders(table):
    """Return how many orders agree."""
    return count_after(table, ())


def count_after(table, beginning):
    """Return how many orders that agree begin with `beginning`."""
    return count_rest(table, beginning) if starts_order(table, beginning) else 0


def next_cells(table, beginning):
    """Return the ascending list of the cells that can come next after `beginning`."""
    return ready_cells(table, beginning) if starts_order(table, beginning) else []


def order_at(table, number):
    """Return the order with that number."""
    if not 0 <= number < count_orders(table):
        raise NoOrder(number)
    order = ()
    ahead = number
    while len(order) < len(taken_cells(table)):
        cell, ahead = next_at(table, order, ahead)
        order = order + (cell,)
    return order


def next_at(table, came, number):
    """Return what comes next in the order with that number of those that begin with `came`.

    Returns the cell, and the number of the order among those that begin with `came` and this cell.
    """
    ahead = number
    for cell in ready_cells(table, came):
        many = count_rest(table, came + (cell,))
        if ahead < many:
            break
        ahead -= many
    return (cell, ahead)


def number_of(table, order):
    """Return the number of the order."""
    if not possible(table):
        raise Misfit(0)
    place = first_misfit(table, order)
    if place is not None:
        raise Misfit(place)
    return sum([count_lower(table, tuple(order[:at]), cell) for at, cell in enumerate(order)])


def count_lower(table, came, cell):
    """Return how many orders begin with `came` and then a cell that is lower than `cell`."""
    return sum([count_rest(table, came + (lower,)) for lower in ready_cells(table, came) if lower < cell])


def all_orders(table):
    """Return the ascending list of all orders that agree."""
    many = count_orders(table)
    if many > MOST_LISTED:
        raise TooMany(many)
    if many == 0:
        # Without this an impossible table could have far too many beginnings that end nowhere.
        return []
    orders = [()]
    while len(orders[0]) < len(taken_cells(table)):
        orders = [order + (cell,) for order in orders for cell in ready_cells(table, order)]
    return orders
