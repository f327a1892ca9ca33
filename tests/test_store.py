"""Point 15: a store over operations."""

import math
import random
import unittest

from nearslot import errors
from nearslot.errors import Full, Needed, NoObject, NoState
from nearslot.store import Store
from nearslot.verdicts import shows_order

from model import Model, Refused

METHODS = {
    "put": ["wish"],
    "put_all": ["wishes"],
    "take_out": ["cell"],
    "forget": ["cell"],
    "undo": [],
    "table": [],
    "order": [],
    "count": [],
    "histories": [],
    "operations": [],
    "journal": [],
    "as_of": ["many"],
    "twin": [],
}


def random_call(chance, size):
    """A name of a method that can change a store, and its arguments, some of which make it raise an error."""
    name = chance.choice(["put", "put", "put_all", "take_out", "take_out", "forget", "undo"])
    if name == "put":
        return name, (chance.randrange(size),)
    if name == "put_all":
        return name, ([chance.randrange(size) for at in range(chance.randrange(size + 2))],)
    if name == "undo":
        return name, ()
    return name, (chance.choice([*range(size), *range(size), -1, -size, size, 10 ** 30]),)


def state_of(store):
    """All that a store tells of its state, its journal left out."""
    return (store.table(), store.order(), store.count(), store.histories(), store.operations(), len(store), repr(store))


class Sequences(unittest.TestCase):
    """Against a model that really puts in, lists orders and keeps the past."""

    def test_random_sequences(self):
        for seed in range(60):
            self.check_sequence(random.Random(seed), 1 + seed % 4, 40)

    def test_longer_rows(self):
        for seed in range(8):
            self.check_sequence(random.Random(seed), 5, 30)

    def check_sequence(self, chance, size, steps):
        store, model = Store(size), Model(size)
        self.check_state(store, model)
        for step in range(steps):
            name, arguments = random_call(chance, size)
            with self.subTest(size=size, step=step, name=name, arguments=arguments):
                self.check_call(store, model, name, arguments)
                self.check_state(store, model)

    def check_call(self, store, model, name, arguments):
        try:
            expected = model.call(name, *arguments)
        except Refused as refused:
            with self.assertRaises(getattr(errors, refused.name)) as caught:
                getattr(store, name)(*arguments)
            self.assertEqual(vars(caught.exception), refused.fields)
        else:
            self.assertEqual(repr(getattr(store, name)(*arguments)), repr(expected))

    def check_state(self, store, model):
        self.assertEqual(repr(store.table()), repr(model.table()))
        self.assertEqual(repr(store.order()), repr(model.order()))
        self.assertEqual(store.count(), len(model.orders()))
        self.assertEqual(store.histories(), model.histories())
        self.assertEqual(store.operations(), len(model.past))
        self.assertEqual(len(store), len(model.order()))
        self.assertEqual(repr(store), f"Store({len(model.order())} of {model.size} cells)")
        self.assertEqual(repr(store.journal()), repr(model.journal))
        self.assertIs(shows_order(store.table(), store.order()), True)

    def test_errors_change_nothing_but_the_journal(self):
        for seed in range(40):
            chance = random.Random(seed)
            size = 1 + seed % 5
            store = Store(size)
            for step in range(30):
                name, arguments = random_call(chance, size)
                before, journal = state_of(store), store.journal()
                try:
                    getattr(store, name)(*arguments)
                except (Full, Needed, NoObject):
                    self.assertEqual(state_of(store), before)
                self.assertEqual(store.journal(), journal + [("begin", name), ("end", name)])


class Past(unittest.TestCase):
    """as_of, twin and undo."""

    def filled_store(self, seed, size, steps):
        """A store after some random operations, and its states after 0, 1, and so on of those in effect."""
        chance = random.Random(seed)
        store = Store(size)
        states = [state_of(store)]
        for step in range(steps):
            name, arguments = random_call(chance, size)
            try:
                getattr(store, name)(*arguments)
            except (Full, Needed, NoObject):
                pass
            del states[store.operations():]
            states.append(state_of(store))
        return store, states

    def test_as_of_every_state(self):
        for seed in range(30):
            store, states = self.filled_store(seed, 1 + seed % 6, 25)
            self.assertEqual(len(states), store.operations() + 1)
            for many, state in enumerate(states):
                with self.subTest(seed=seed, many=many):
                    past = store.as_of(many)
                    self.assertIs(type(past), Store)
                    self.assertEqual(state_of(past), state)
                    self.assertEqual(past.journal(), [])

    def test_as_of_can_be_undone_and_has_its_own_past(self):
        for seed in range(20):
            store, states = self.filled_store(seed, 1 + seed % 6, 25)
            for many in range(len(states)):
                past = store.as_of(many)
                for back in range(many - 1, -1, -1):
                    self.assertEqual(state_of(past.as_of(back)), states[back])
                    self.assertIs(past.undo(), True)
                    self.assertEqual(state_of(past), states[back])
                self.assertIs(past.undo(), False)
                self.assertEqual(state_of(past), states[0])
                self.assertEqual(past.journal(), [("begin", "undo"), ("end", "undo")] * (many + 1))
            self.assertEqual(state_of(store), states[-1])

    def test_undo_all_the_way(self):
        for seed in range(20):
            store, states = self.filled_store(seed, 1 + seed % 6, 25)
            for state in states[-2::-1]:
                self.assertIs(store.undo(), True)
                self.assertEqual(state_of(store), state)
            self.assertIs(store.undo(), False)
            self.assertIs(store.undo(), False)
            self.assertEqual(state_of(store), states[0])

    def test_no_influence_on_one_another(self):
        for make in (lambda store: store.twin(), lambda store: store.as_of(store.operations())):
            for seed in range(20):
                store, states = self.filled_store(seed, 1 + seed % 6, 20)
                other = make(store)
                self.assertEqual(state_of(other), states[-1])
                self.assertEqual(other, store)
                self.assertEqual(other.journal(), [])
                journal = store.journal()
                self.change(other)
                self.assertEqual(state_of(store), states[-1])
                self.assertEqual(store.journal(), journal)
                again = make(store)
                self.change(store)
                self.assertEqual(state_of(again), states[-1])
                self.assertEqual(again.journal(), [])
                self.assertEqual(again.operations(), len(states) - 1)

    def change(self, store):
        store.put_all([])
        for back in range(store.operations() // 2):
            store.undo()
        for cell in store.order():
            store.forget(cell)
        for cell in store.order():
            store.take_out(cell)
        store.put(0)

    def test_twin_of_a_twin(self):
        store = Store(3)
        store.put_all([1, 1])
        twin = store.twin().twin()
        twin.put(1)
        self.assertEqual((store.table(), twin.table()), ((1, 1, None), (1, 1, 1)))
        self.assertEqual([twin.undo(), twin.undo(), twin.undo()], [True, True, False])
        self.assertEqual((store.table(), twin.table()), ((1, 1, None), (None, None, None)))

    def test_no_state(self):
        store = Store(3)
        store.put(1)
        store.put(1)
        store.undo()
        journal = store.journal()
        for many in (-1, -2, 2, 3, 61, 10 ** 30, -10 ** 30):
            with self.subTest(many=many):
                with self.assertRaises(NoState) as caught:
                    store.as_of(many)
                self.assertEqual(caught.exception.many, many)
        self.assertEqual(store.journal(), journal)
        self.assertEqual(store.operations(), 1)
        with self.assertRaises(NoState):
            Store(1).as_of(1)
        self.assertEqual(Store(1).as_of(0), Store(1))


class Operations(unittest.TestCase):
    def test_put_to_the_end(self):
        store = Store(3)
        self.assertEqual([store.put(1), store.put(1), store.put(1)], [1, 0, 2])
        for wish in range(3):
            with self.assertRaises(Full) as caught:
                store.put(wish)
            self.assertEqual(caught.exception.many, 3)
        self.assertEqual((store.table(), store.order(), store.operations()), ((1, 1, 1), (1, 0, 2), 3))

    def test_put_all_is_one_operation(self):
        store = Store(5)
        self.assertEqual(store.put_all([2, 2, 2]), [2, 1, 3])
        self.assertEqual(store.operations(), 1)
        self.assertIs(store.undo(), True)
        self.assertEqual((store.table(), store.order(), store.operations()), ((None,) * 5, (), 0))

    def test_put_all_of_nothing_is_an_operation(self):
        store = Store(1)
        self.assertEqual(store.put_all([]), [])
        self.assertEqual(store.put_all(()), [])
        self.assertEqual(store.operations(), 2)
        store.put(0)
        self.assertEqual(store.put_all([]), [])
        self.assertEqual(store.operations(), 4)
        self.assertEqual([store.undo() for back in range(5)], [True] * 4 + [False])

    def test_put_all_of_too_many_does_none(self):
        store = Store(3)
        store.put(0)
        for wishes in ([0, 1, 2], [0] * 4, (2,) * 9):
            with self.assertRaises(Full) as caught:
                store.put_all(wishes)
            self.assertEqual(caught.exception.many, 3)
            self.assertEqual((store.table(), store.order(), store.operations()), ((0, None, None), (0,), 1))
        self.assertEqual(store.put_all([0, 0]), [1, 2])

    def test_take_out(self):
        store = Store(5)
        store.put_all([2, 2, 2, 0])
        with self.assertRaises(Needed) as caught:
            store.take_out(1)
        self.assertEqual(caught.exception.cell, 1)
        for cell in (4, 5, -1, -5, 10 ** 30):
            with self.assertRaises(NoObject) as caught:
                store.take_out(cell)
            self.assertEqual(caught.exception.cell, cell)
        self.assertEqual([store.take_out(3), store.take_out(1), store.take_out(2), store.take_out(0)], [3, 2, 1, 0])
        self.assertEqual((store.table(), store.order(), store.operations()), ((None,) * 5, (), 5))

    def test_take_out_of_the_middle_of_the_order(self):
        store = Store(5)
        store.put_all([4, 2, 0, 2])
        self.assertEqual(store.order(), (4, 2, 0, 1))
        store.take_out(0)
        self.assertEqual(store.order(), (4, 2, 1))
        self.assertEqual(store.put(0), 0)
        self.assertEqual(store.order(), (4, 2, 1, 0))

    def test_forget(self):
        store = Store(5)
        store.put_all([2, 2, 2, 0])
        self.assertEqual([store.forget(3), store.forget(3), store.forget(1)], [12, 12, 24])
        self.assertEqual((store.table(), store.order(), store.operations()), ((0, "?", 2, "?", None), (2, 1, 3, 0), 4))
        for cell in (4, 5, -1, -5, 10 ** 30):
            with self.assertRaises(NoObject) as caught:
                store.forget(cell)
            self.assertEqual(caught.exception.cell, cell)
        self.assertEqual([store.undo(), store.undo(), store.undo()], [True, True, True])
        self.assertEqual(store.table(), (0, 2, 2, 2, None))

    def test_a_forgotten_wish_needs_nothing(self):
        store = Store(3)
        store.put_all([1, 1])
        with self.assertRaises(Needed):
            store.take_out(1)
        store.forget(0)
        self.assertEqual(store.take_out(1), 1)
        self.assertEqual(store.table(), ("?", None, None))

    def test_undo_of_nothing(self):
        store = Store(2)
        self.assertIs(store.undo(), False)
        self.assertEqual(store.operations(), 0)
        store.put(0)
        self.assertIs(store.undo(), True)
        self.assertIs(store.undo(), False)
        self.assertEqual(store.table(), (None, None))


class Journal(unittest.TestCase):
    def test_one_pair_for_each_call(self):
        store = Store(2)
        store.put(0)
        store.put_all([0])
        for name, argument in (("put", 0), ("put_all", [0]), ("take_out", 0), ("take_out", 9), ("forget", 9)):
            with self.assertRaises((Full, Needed, NoObject)):
                getattr(store, name)(argument)
        store.forget(1)
        store.take_out(1)
        store.undo()
        names = ["put", "put_all", "put", "put_all", "take_out", "take_out", "forget", "forget", "take_out", "undo"]
        expected = [(word, name) for name in names for word in ("begin", "end")]
        self.assertEqual(repr(store.journal()), repr(expected))

    def test_queries_are_not_told(self):
        store = Store(3)
        store.put(1)
        journal = store.journal()
        state_of(store)
        store.as_of(0)
        store.twin()
        store.journal()
        with self.assertRaises(NoState):
            store.as_of(9)
        self.assertEqual(store == Store(3), False)
        self.assertEqual(store.journal(), journal)

    def test_undo_without_operation_is_told_and_does_not_undo_the_journal(self):
        store = Store(1)
        store.put(0)
        store.undo()
        store.undo()
        self.assertEqual(store.journal(), [("begin", "put"), ("end", "put")] + [("begin", "undo"), ("end", "undo")] * 2)

    def test_own_list(self):
        store = Store(1)
        store.put(0)
        one = store.journal()
        one.append("more")
        self.assertIsNot(one, store.journal())
        self.assertEqual(store.journal(), [("begin", "put"), ("end", "put")])


class Equality(unittest.TestCase):
    def test_table_and_order(self):
        one, other = Store(3), Store(3)
        self.check_equal(one, other, True)
        one.put_all([0, 2])
        self.check_equal(one, other, False)
        other.put(0)
        other.put(2)
        self.check_equal(one, other, True)
        other.forget(0)
        self.check_equal(one, other, False)
        one.forget(0)
        self.check_equal(one, other, True)

    def test_the_order_counts(self):
        one, other = Store(3), Store(3)
        one.put_all([0, 2])
        other.put_all([2, 0])
        self.assertEqual(one.table(), other.table())
        self.check_equal(one, other, False)

    def test_the_past_and_the_journal_do_not_count(self):
        one, other = Store(3), Store(3)
        one.put_all([])
        one.put(0)
        one.undo()
        one.undo()
        one.undo()
        self.check_equal(one, other, True)
        one.put(1)
        one.take_out(1)
        self.check_equal(one, other, True)

    def test_sizes(self):
        self.check_equal(Store(2), Store(3), False)
        self.check_equal(Store(1), Store(1), True)

    def test_nothing_else(self):
        store = Store(2)
        for other in (None, 0, 2, True, False, "", "Store(0 of 2 cells)", (), [], (None, None), ((None, None), ()),
                      store.table(), object()):
            self.assertIs(store == other, False)
            self.assertIs(other == store, False)
            self.assertIs(store != other, True)

    def check_equal(self, one, other, expected):
        self.assertIs(one == other, expected)
        self.assertIs(other == one, expected)
        self.assertIs(one != other, not expected)
        self.assertIs(one == one, True)


class LenAndRepr(unittest.TestCase):
    def test_every_number(self):
        for size in (1, 2, 5, 12):
            store = Store(size)
            for many in range(size + 1):
                self.assertEqual(len(store), many)
                self.assertEqual(repr(store), f"Store({many} of {size} cells)")
                if many < size:
                    store.put(0)

    def test_one_cell(self):
        store = Store(1)
        store.put(0)
        self.assertEqual(repr(store), "Store(1 of 1 cells)")


class Calls(unittest.TestCase):
    def test_methods_stand_in_the_class_itself(self):
        for name in (*METHODS, "__init__", "__eq__", "__len__", "__repr__"):
            self.assertIn(name, vars(Store))

    def test_by_name(self):
        store = Store(size=5)
        self.assertEqual(store.put_all(wishes=[2, 2, 2]), [2, 1, 3])
        self.assertEqual(store.put_all(wishes=(0,)), [0])
        self.assertEqual(store.forget(cell=3), 12)
        self.assertEqual(store.take_out(cell=3), 3)
        self.assertEqual(store.put(wish=4), 4)
        self.assertEqual(store.as_of(many=1).table(), (None, 2, 2, 2, None))

    def test_each_class_of_arguments_by_name(self):
        for name, fields in METHODS.items():
            arguments = {"wish": 1, "wishes": [1, 1], "cell": 0, "many": 1}
            one, other = Store(4), Store(4)
            for store in (one, other):
                store.put(0)
            by_name = getattr(one, name)(**{field: arguments[field] for field in fields})
            by_position = getattr(other, name)(*[arguments[field] for field in fields])
            with self.subTest(name=name):
                self.assertEqual(by_name, by_position)
                self.assertEqual(state_of(one), state_of(other))

    def test_arguments_are_not_changed_and_not_kept(self):
        wishes = [2, 2]
        store = Store(3)
        cells = store.put_all(wishes)
        self.assertEqual(wishes, [2, 2])
        with self.assertRaises(Full):
            store.put_all(wishes)
        self.assertEqual(wishes, [2, 2])
        wishes.append(0)
        cells.append(0)
        self.assertEqual((store.table(), store.order()), ((None, 2, 2), (2, 1)))
        self.assertEqual(store.as_of(1).order(), (2, 1))

    def test_own_lists(self):
        one, other = Store(3), Store(3)
        found = [one.put_all([1]), other.put_all([1]), one.put_all([]), other.put_all([])]
        self.assertEqual(len({id(some) for some in found}), 4)

    def test_tuples(self):
        store = Store(3)
        store.put_all((1, 1))
        self.assertEqual(repr(store.table()), "(1, 1, None)")
        self.assertEqual(repr(store.order()), "(1, 0)")
        self.assertIs(type(store.put_all((1,))), list)


class Twelve(unittest.TestCase):
    def test_sixty_operations(self):
        store = Store(12)
        for wish in range(12):
            self.assertEqual(store.put(wish), wish)
        self.assertEqual(store.count(), math.factorial(12))
        for again in range(2):
            for cell in range(12):
                self.assertEqual(store.forget(cell), math.factorial(12))
        self.assertEqual(store.histories(), 12 ** 12)
        for cell in range(12):
            self.assertEqual(store.take_out(cell), 11 - cell)
        self.assertEqual(store.put_all([5] * 12), [5, 4, 6, 3, 7, 2, 8, 1, 9, 0, 10, 11])
        for cell in range(11):
            store.forget(cell)
        self.assertEqual(store.operations(), 60)
        self.assertEqual(len(store), 12)
        # The last object still needs all others.
        self.assertEqual(store.count(), math.factorial(11))
        self.assertEqual(store.as_of(36).histories(), 12 ** 12)
        self.assertEqual(store.as_of(49).count(), 1)
        self.assertEqual(len(store.journal()), 120)
        twin = store.twin()
        self.assertEqual([twin.undo() for back in range(61)], [True] * 60 + [False])
        self.assertEqual(twin, Store(12))
        self.assertEqual(store.operations(), 60)


if __name__ == "__main__":
    unittest.main()
