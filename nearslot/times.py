"""When an object came, and which of two came first, counted over parts as in counting.py."""

from nearslot.counting import choose, count_orders, count_with_last, lasts, part_counts, spans_of
from nearslot.needing import needed_cells, require_object, require_possible, taken_cells


def require_objects(table, cells):
    """Raise an error if the table is not possible, or else for the first cell without an object."""
    require_possible(table)
    for cell in cells:
        require_object(table, cell)


def parts_with(many, low, high):
    """Return the parts of `many` objects that hold those from `low` to `high`, the smaller ones first."""
    parts = [(first, end) for first in range(low + 1) for end in range(high + 1, many + 1)]
    return sorted(parts, key=lambda part: part[1] - part[0])


def merged_times(times, others):
    """Return the counts of an object's times after its side was merged in every way with `others` other objects.

    `times` are the counts of its times in its side alone.
    """
    most = len(times) + others - 1
    merged = [0] * (most + 1)
    for own, many in enumerate(times):
        for ahead in range(others + 1):
            time = own + ahead
            merged[time] += many * choose(time, own) * choose(most - time, others - ahead)
    return merged


def times_in_part(spans, counts, times, at, part):
    """Return the counts of the times that object `at` has in the part; `times` has those of smaller parts."""
    first, end = part
    found = [0] * (end - first)
    for last in lasts(spans, first, end):
        if last == at:
            found[-1] += count_with_last(counts, first, last, end)
            continue
        side, other = (first, last), (last + 1, end)
        if last < at:
            side, other = other, side
        for time, many in enumerate(merged_times(times[side], other[1] - other[0])):
            found[time] += many * counts[other]
    return found


def part_times(spans, counts, at):
    """Return the dict of all parts with the object `at`: the counts of its times in each one."""
    times = {}
    for part in parts_with(len(spans), at, at):
        times[part] = times_in_part(spans, counts, times, at, part)
    return times


def time_counts(table, cell):
    """Return the list of the numbers of orders in which the object has time 0, 1, and so on."""
    require_objects(table, [cell])
    row = taken_cells(table)
    spans = spans_of(table, row)
    return part_times(spans, part_counts(spans), row.index(cell))[(0, len(row))]


def merged_before(one, ones, other, others):
    """Return in how many ways two sides can be merged so that object `one` comes before object `other`.

    The sides have `ones` and `others` objects; `one` and `other` are the times of the two in their own sides.
    """
    ways = 0
    for ahead in range(one + 1, ones + 1):
        behind = ones - ahead
        ways += choose(ahead + other, ahead) * choose(behind + others - other - 1, behind)
    return ways


def count_merged_before(times, other_times):
    """Return how many merged orders of two sides have the object of the first side before that of the second.

    The arguments are the counts of the times of the two objects in their own sides.
    """
    total = 0
    for one, many in enumerate(times):
        for other, more in enumerate(other_times):
            total += many * more * merged_before(one, len(times), other, len(other_times))
    return total


def count_left_first(spans, left, right):
    """Return how many orders have object `left` before object `right`, which stands to the right of it."""
    counts = part_counts(spans)
    left_times = part_times(spans, counts, left)
    right_times = part_times(spans, counts, right)
    found = {}
    for first, end in parts_with(len(spans), left, right):
        total = 0
        for last in lasts(spans, first, end):
            below, above = (first, last), (last + 1, end)
            ways = choose(end - first - 1, last - first)
            if last < left:
                total += ways * counts[below] * found[above]
            elif left < last < right:
                total += count_merged_before(left_times[below], right_times[above])
            elif last == right:
                total += ways * counts[below] * counts[above]
            elif right < last:
                total += ways * found[below] * counts[above]
        found[(first, end)] = total
    return found[(0, len(spans))]


def count_before(table, one, other):
    """Return in how many orders the object in cell `one` is before that in cell `other`."""
    require_objects(table, [one, other])
    if one == other:
        return 0
    row = taken_cells(table)
    many = count_left_first(spans_of(table, row), row.index(min(one, other)), row.index(max(one, other)))
    return many if one < other else count_orders(table) - many


def certain_before(table, cell):
    """Return the ascending tuple of the cells whose objects are before the object in every order."""
    require_objects(table, [cell])
    # An object is certainly before another one only if the other needs it, maybe by way of further objects.
    before = []
    waiting = list(needed_cells(table, cell))
    while waiting:
        needed = waiting.pop()
        if needed not in before:
            before.append(needed)
            waiting.extend(needed_cells(table, needed))
    return tuple(sorted(before))
