"""A row of cells that is kept over operations, which can be undone."""

from nearslot.cells import UNKNOWN, put_into
from nearslot.counting import count_orders
from nearslot.errors import NoState
from nearslot.leaving import left
from nearslot.wishes import count_histories, with_wish


class Store:
    """A row of cells with objects, whose order is known."""

    def __init__(self, size):
        # Pairs of a table and an order: the empty row, then what each operation in effect made of it.
        self.states = [((None,) * size, ())]
        self.events = []

    def put_in(self, wishes):
        """Put in objects with the wishes as one operation, without the journal, and return the list of their cells."""
        table, cells = put_into(self.table(), wishes)
        self.states.append((table, self.order() + tuple(cells)))
        return cells

    def put(self, wish):
        """Put in an object with the wish and return its cell."""
        self.events.append(("begin", "put"))
        try:
            return self.put_in([wish])[0]
        finally:
            self.events.append(("end", "put"))

    def put_all(self, wishes):
        """Put in objects with the wishes as one operation and return the list of their cells."""
        self.events.append(("begin", "put_all"))
        try:
            return self.put_in(wishes)
        finally:
            self.events.append(("end", "put_all"))

    def take_out(self, cell):
        """Take the object in the cell out and return how many objects there are then."""
        self.events.append(("begin", "take_out"))
        try:
            table = left(self.table(), cell)
            self.states.append((table, tuple([other for other in self.order() if other != cell])))
            return len(self.order())
        finally:
            self.events.append(("end", "take_out"))

    def forget(self, cell):
        """Make the wish of the object in the cell unknown and return how many orders agree then."""
        self.events.append(("begin", "forget"))
        try:
            table = with_wish(self.table(), cell, UNKNOWN)
            self.states.append((table, self.order()))
            return count_orders(table)
        finally:
            self.events.append(("end", "forget"))

    def undo(self):
        """Restore the state before the last operation and return True, or return False if there is none."""
        self.events.append(("begin", "undo"))
        try:
            if self.operations() == 0:
                return False
            self.states.pop()
            return True
        finally:
            self.events.append(("end", "undo"))

    def table(self):
        """Return the table."""
        return self.states[-1][0]

    def order(self):
        """Return the order of the objects that are there."""
        return self.states[-1][1]

    def count(self):
        """Return how many orders agree with the table."""
        return count_orders(self.table())

    def histories(self):
        """Return how many histories the table has."""
        return count_histories(self.table())

    def operations(self):
        """Return how many operations there are."""
        return len(self.states) - 1

    def journal(self):
        """Return the list of what began and ended, as pairs of a word and the name of a method."""
        return list(self.events)

    def as_of(self, many):
        """Return a new store in the state after the first `many` operations."""
        if not 0 <= many <= self.operations():
            raise NoState(many)
        other = Store(len(self.table()))
        other.states = self.states[:many + 1]
        return other

    def twin(self):
        """Return a new store in the same state."""
        return self.as_of(self.operations())

    def __eq__(self, other):
        """Return whether `other` is a store with the same table and order."""
        return isinstance(other, Store) and self.table() == other.table() and self.order() == other.order()

    def __len__(self):
        """Return how many objects there are."""
        return len(self.order())

    def __repr__(self):
        """Return a text that tells how many cells are taken."""
        return f"Store({len(self.order())} of {len(self.table())} cells)"
