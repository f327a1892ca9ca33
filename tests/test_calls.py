"""Point 2: how the functions are called, and what they leave alone."""

import copy
import itertools
import unittest

from nearslot import cells, counting, errors, times, verdicts

TABLE = (0, 2, 2, 2, None)

# function, its arguments by name in their order, what it returns
CALLS = [
    (cells.is_table, {"thing": TABLE}, True),
    (cells.needs, {"size": 5, "cell": 3, "wish": 2}, (1, 2)),
    (cells.nearest, {"table": TABLE, "wish": 2}, 4),
    (cells.cells_of, {"size": 5, "wishes": [2, 2, 2, 0]}, (2, 1, 3, 0)),
    (cells.filled, {"size": 5, "wishes": [2, 2, 2, 0]}, TABLE),
    (verdicts.verdict, {"table": TABLE}, ("order", (0, 2, 1, 3))),
    (verdicts.verdict, {"table": (None, 0, None)}, ("gap", 1, 0)),
    (verdicts.verdict, {"table": (1, 0)}, ("both", 0, 1)),
    (verdicts.shows_order, {"table": TABLE, "thing": (2, 1, 3, 0)}, True),
    (verdicts.shows_order, {"table": TABLE, "thing": [2, 1, 3, 0]}, False),
    (verdicts.shows_gap, {"table": (None, 0, None), "thing": (1, 0)}, True),
    (verdicts.shows_gap, {"table": (None, 0, None), "thing": [1, 0]}, False),
    (verdicts.shows_both, {"table": (1, 0), "thing": (1, 0)}, True),
    (verdicts.shows_both, {"table": (1, 0), "thing": [1, 0]}, False),
    (counting.count_orders, {"table": TABLE}, 4),
    (counting.count_after, {"table": TABLE, "beginning": (2, 1)}, 2),
    (counting.count_after, {"table": TABLE, "beginning": (1,)}, 0),
    (counting.next_cells, {"table": TABLE, "beginning": (2, 1)}, [0, 3]),
    (counting.next_cells, {"table": TABLE, "beginning": (1,)}, []),
    (counting.next_cells, {"table": TABLE, "beginning": ()}, [0, 2]),
    (counting.next_cells, {"table": (1, 0), "beginning": ()}, []),
    (counting.order_at, {"table": TABLE, "number": 3}, (2, 1, 3, 0)),
    (counting.number_of, {"table": TABLE, "order": (2, 1, 3, 0)}, 3),
    (counting.all_orders, {"table": TABLE}, [(0, 2, 1, 3), (2, 0, 1, 3), (2, 1, 0, 3), (2, 1, 3, 0)]),
    (counting.all_orders, {"table": (1, 0)}, []),
    (counting.all_orders, {"table": (None,)}, [()]),
    (times.time_counts, {"table": TABLE, "cell": 1}, [0, 2, 2, 0]),
    (times.count_before, {"table": TABLE, "one": 1, "other": 0}, 2),
    (times.count_before, {"table": TABLE, "one": 2, "other": 3}, 4),
    (times.certain_before, {"table": TABLE, "cell": 3}, (1, 2)),
]

# function, its arguments by name, the error and its fields
RAISING = [
    (cells.nearest, {"table": (0, 1), "wish": 1}, errors.Full, {"many": 2}),
    (cells.cells_of, {"size": 1, "wishes": [0, 0]}, errors.Full, {"many": 1}),
    (cells.filled, {"size": 1, "wishes": [0, 0]}, errors.Full, {"many": 1}),
    (counting.order_at, {"table": TABLE, "number": 4}, errors.NoOrder, {"number": 4}),
    (counting.number_of, {"table": TABLE, "order": (2, 0, 3, 1)}, errors.Misfit, {"place": 2}),
    (counting.number_of, {"table": (1, 0), "order": (0, 1)}, errors.Misfit, {"place": 0}),
    (counting.all_orders, {"table": ("?",) * 6}, errors.TooMany, {"many": 720}),
    (times.time_counts, {"table": (1, 0), "cell": 0}, errors.Impossible, {}),
    (times.time_counts, {"table": TABLE, "cell": 4}, errors.NoObject, {"cell": 4}),
    (times.count_before, {"table": (1, 0), "one": 0, "other": 5}, errors.Impossible, {}),
    (times.count_before, {"table": TABLE, "one": 5, "other": 4}, errors.NoObject, {"cell": 5}),
    (times.certain_before, {"table": (1, 0), "cell": 7}, errors.Impossible, {}),
    (times.certain_before, {"table": TABLE, "cell": -1}, errors.NoObject, {"cell": -1}),
]


def turned(value, make):
    """The value with lists or tuples throughout."""
    return make([turned(one, make) for one in value]) if isinstance(value, (list, tuple)) else value


def ways_to_pass(arguments):
    """The arguments as they are, and with lists and tuples in all other ways, except for `thing`."""
    choices = []
    for name, value in arguments.items():
        free = name != "thing" and isinstance(value, (list, tuple))
        choices.append([turned(value, list), turned(value, tuple)] if free else [value])
    return [dict(zip(arguments, values)) for values in itertools.product(*choices)]


class Calls(unittest.TestCase):
    def test_by_position_and_by_name(self):
        for function, arguments, expected in CALLS:
            for given in ways_to_pass(arguments):
                with self.subTest(function=function.__name__, given=given):
                    self.assertEqual(repr(function(*given.values())), repr(expected))
                    self.assertEqual(repr(function(**given)), repr(expected))
                    self.assertEqual(repr(function(**dict(reversed(given.items())))), repr(expected))

    def test_errors_by_position_and_by_name(self):
        for function, arguments, kind, fields in RAISING:
            for given in ways_to_pass(arguments):
                with self.subTest(function=function.__name__, given=given):
                    with self.assertRaises(kind) as caught:
                        function(*given.values())
                    self.assertEqual(vars(caught.exception), fields)
                    with self.assertRaises(kind) as caught:
                        function(**given)
                    self.assertEqual(vars(caught.exception), fields)

    def test_arguments_are_not_changed(self):
        for function, arguments, *expected in CALLS + RAISING:
            for given in ways_to_pass(arguments):
                before = copy.deepcopy(given)
                with self.subTest(function=function.__name__, given=given):
                    try:
                        function(**given)
                    except (ValueError, LookupError, OverflowError):
                        pass
                    self.assertEqual(repr(given), repr(before))

    def test_new_lists(self):
        for function, arguments, expected in CALLS:
            if isinstance(expected, list):
                for given in ways_to_pass(arguments):
                    with self.subTest(function=function.__name__, given=given):
                        one, other = function(**given), function(**given)
                        self.assertIsNot(one, other)
                        self.assertFalse([value for value in given.values() if value is one])
                        one.append("more")
                        self.assertEqual(repr(other), repr(expected))
                        self.assertEqual(repr(function(**given)), repr(expected))

    def test_what_was_returned_is_passed_in_again(self):
        table = cells.filled(5, [2, 2, 2, 0])
        for order in counting.all_orders(table):
            self.assertIs(verdicts.shows_order(table, order), True)
            self.assertEqual(counting.order_at(table, counting.number_of(table, order)), order)
        self.assertEqual(counting.count_after(table, counting.next_cells(table, ())), 1)
        self.assertEqual(counting.count_after(table, times.certain_before(table, 3)), 0)


if __name__ == "__main__":
    unittest.main()
