"""A store as the document tells it, step by step, for the tests to compare with; meant for small rows."""

from listing import histories, needed, orders, outward, taken


class Refused(Exception):
    """A call that raises an error: the name of its class, and its fields."""

    def __init__(self, name, fields):
        super().__init__(name)
        self.name = name
        self.fields = fields


class Model:
    def __init__(self, size):
        self.size = size
        self.now = {"table": [None] * size, "order": []}
        self.past = []
        self.journal = []

    def call(self, name, *arguments):
        """The result of a method that is told in the journal."""
        self.journal.append(("begin", name))
        try:
            return getattr(self, name)(*arguments)
        finally:
            self.journal.append(("end", name))

    def keep(self):
        self.past.append({"table": list(self.now["table"]), "order": list(self.now["order"])})

    def put(self, wish):
        return self.put_all([wish])[0]

    def put_all(self, wishes):
        if self.now["table"].count(None) < len(wishes):
            raise Refused("Full", {"many": self.size})
        self.keep()
        cells = []
        for wish in wishes:
            cell = [cell for cell in outward(self.size, wish) if self.now["table"][cell] is None][0]
            self.now["table"][cell] = wish
            self.now["order"].append(cell)
            cells.append(cell)
        return cells

    def object_in(self, cell):
        if cell not in self.now["order"]:
            raise Refused("NoObject", {"cell": cell})

    def take_out(self, cell):
        self.object_in(cell)
        if [other for other in self.now["order"] if cell in needed(self.now["table"], other)]:
            raise Refused("Needed", {"cell": cell})
        self.keep()
        self.now["table"][cell] = None
        self.now["order"].remove(cell)
        return len(self.now["order"])

    def forget(self, cell):
        self.object_in(cell)
        self.keep()
        self.now["table"][cell] = "?"
        return len(self.orders())

    def undo(self):
        if not self.past:
            return False
        self.now = self.past.pop()
        return True

    def table(self):
        return tuple(self.now["table"])

    def order(self):
        return tuple(self.now["order"])

    def orders(self):
        return orders(self.table())

    def histories(self):
        return len(histories(self.table()))

    def can_leave(self):
        return [cell for cell in taken(self.table())
                if not [other for other in self.now["order"] if cell in needed(self.now["table"], other)]]
