"""What the tests compare with: objects are really put in, in all orders, without the needs of point 5."""

import itertools
import random

IMPOSSIBLE = [(1, 0), (None, 0, None), (2, None, 0), (1, 0) + ("?",) * 10, (None, 0) + ("?",) * 10]


def outward(size, wish):
    """The cells of a row, the nearest to the wish first: step by step away from it, the lower side first."""
    steps = [wish]
    for far in range(1, size):
        steps += [wish - far, wish + far]
    return [cell for cell in steps if 0 <= cell < size]


def taken(table):
    return [cell for cell, entry in enumerate(table) if entry is not None]


def needed(table, cell):
    """The cells that the way outward from the wish passes before the cell."""
    if table[cell] in (None, "?"):
        return []
    way = outward(len(table), table[cell])
    return sorted(way[:way.index(cell)])


def put_in(size, wishes):
    """The cells and the table after objects with the wishes were put in, found by walking outward."""
    table = [None] * size
    cells = []
    for wish in wishes:
        cell = [cell for cell in outward(size, wish) if table[cell] is None][0]
        table[cell] = wish
        cells.append(cell)
    return tuple(cells), tuple(table)


def goes_in(table, cell, came):
    """Whether the object gets to its cell if it is put in when those in `came` are there."""
    if table[cell] == "?":
        return True
    return [free for free in outward(len(table), table[cell]) if free not in came][0] == cell


def orders(table, came=()):
    """All orders that agree and begin with `came`, in ascending order."""
    rest = [cell for cell in taken(table) if cell not in came]
    if not rest:
        return [tuple(came)]
    return [order for cell in rest if goes_in(table, cell, came) for order in orders(table, (*came, cell))]


def histories(table):
    """All histories, as pairs of an order and the table with all wishes known: all rows of wishes put in."""
    found = []
    for wishes in itertools.product(range(len(table)), repeat=len(taken(table))):
        order, known = put_in(len(table), wishes)
        if all(entry == other or (entry == "?" and other is not None) for entry, other in zip(table, known)):
            found.append((order, known))
    return found


def views_of(table):
    """All views: what is taken after each number of objects, in each order."""
    return sorted({tuple(sorted(order[:many])) for order in orders(table) for many in range(len(order) + 1)})


def reason(table):
    """The gap or the pair that makes a table impossible, by trying all pairs of cells in ascending order."""
    pairs = list(itertools.product(range(len(table)), repeat=2))
    for cell, empty in pairs:
        if table[empty] is None and empty in needed(table, cell):
            return ("gap", cell, empty)
    for one, other in pairs:
        if one in needed(table, other) and other in needed(table, one):
            return ("both", one, other)
    return None


def tables(size):
    """All tables of that size."""
    return list(itertools.product([None, "?", *range(size)], repeat=size))


def small_tables(most_cells):
    return [table for size in range(1, most_cells + 1) for table in tables(size)]


def nested(depth, make):
    """A value of lists or tuples within one another, that many deep."""
    value = 0
    for level in range(depth):
        value = make([value])
    return value


def changed_tables(size, many, seed):
    """Tables of that size, most of them possible: filled rows of which some entries were changed."""
    chance = random.Random(seed)
    found = []
    while len(found) < many:
        table = [None] * size
        for wish in [chance.randrange(size) for at in range(size - chance.choice([0, 0, 0, 1, 2]))]:
            table[[cell for cell in outward(size, wish) if table[cell] is None][0]] = wish
        for change in range(chance.randrange(5)):
            cell = chance.randrange(size)
            if table[cell] is not None:
                table[cell] = chance.choice(["?", "?", "?", cell, chance.randrange(size)])
        found.append(tuple(table))
    return found


def ways_in(table, cell, came):
    """With how many wishes the object gets to its cell if it is put in when those in `came` are there."""
    wishes = range(len(table)) if table[cell] == "?" else [table[cell]]
    return len([wish for wish in wishes
                if [free for free in outward(len(table), wish) if free not in came][0] == cell])


def count_histories_over_sets(table):
    """The number of histories, over all sets of taken cells."""
    ways = {frozenset(): 1}
    for many in range(len(taken(table))):
        following = {}
        for came, count in ways.items():
            for cell in set(taken(table)) - came:
                more = count * ways_in(table, cell, came)
                following[came | {cell}] = following.get(came | {cell}, 0) + more
        ways = following
    return ways[frozenset(taken(table))]


class Ways:
    """Numbers of orders of a table over all sets of taken cells, for tables with too many orders to list."""

    def __init__(self, table):
        self.table = table
        self.all = frozenset(taken(table))
        self.sets = [frozenset(some) for many in range(len(self.all) + 1)
                     for some in itertools.combinations(sorted(self.all), many)]
        self.steps = {came: [cell for cell in sorted(self.all - came) if goes_in(table, cell, came)]
                      for came in self.sets}
        self.until = {came: 0 for came in self.sets}
        self.until[frozenset()] = 1
        for came in self.sets:
            for cell in self.steps[came]:
                self.until[came | {cell}] += self.until[came]
        self.after = {self.all: 1}
        for came in reversed(self.sets[:-1]):
            self.after[came] = sum(self.after[came | {cell}] for cell in self.steps[came])
        self.many = self.after[frozenset()]

    def begin_with(self, cells):
        for at, cell in enumerate(cells):
            if cell not in self.steps[frozenset(cells[:at])]:
                return 0
        return self.after[frozenset(cells)]

    def with_time(self, cell, time):
        return sum(self.until[came] * self.after[came | {cell}] for came in self.sets
                   if len(came) == time and cell in self.steps[came])

    def with_before(self, one, other):
        return sum(self.until[came] * self.after[came | {other}] for came in self.sets
                   if one in came and other in self.steps[came])
