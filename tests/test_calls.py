"""Point 2: how the functions are called, and what they leave alone."""

import copy
import itertools
import unittest

from nearslot import cells, counting, desk, errors, leaving, outcomes, texts, times, verdicts, views, wishes

TABLE = (0, 2, 2, 2, None)

# function, its arguments by name in their order, what it returns
CALLS = [
    (cells.is_table, {"thing": TABLE}, True),
    (cells.needs, {"size": 5, "cell": 3, "wish": 2}, (1, 2)),
    (cells.nearest, {"table": TABLE, "wish": 2}, 4),
    (cells.cells_of, {"size": 5, "wishes": [2, 2, 2, 0]}, (2, 1, 3, 0)),
    (cells.filled, {"size": 5, "wishes": [2, 2, 2, 0]}, TABLE),
    (verdicts.verdict, {"table": TABLE}, ("order", (0, 2, 1, 3))),
    (verdicts.verdict, {"table": (None, 0, None)}, ("gap", 1, 0)),
    (verdicts.verdict, {"table": (1, 0)}, ("both", 0, 1)),
    (verdicts.shows_order, {"table": TABLE, "thing": (2, 1, 3, 0)}, True),
    (verdicts.shows_order, {"table": TABLE, "thing": [2, 1, 3, 0]}, False),
    (verdicts.shows_gap, {"table": (None, 0, None), "thing": (1, 0)}, True),
    (verdicts.shows_gap, {"table": (None, 0, None), "thing": [1, 0]}, False),
    (verdicts.shows_both, {"table": (1, 0), "thing": (1, 0)}, True),
    (verdicts.shows_both, {"table": (1, 0), "thing": [1, 0]}, False),
    (counting.count_orders, {"table": TABLE}, 4),
    (counting.count_after, {"table": TABLE, "beginning": (2, 1)}, 2),
    (counting.count_after, {"table": TABLE, "beginning": (1,)}, 0),
    (counting.next_cells, {"table": TABLE, "beginning": (2, 1)}, [0, 3]),
    (counting.next_cells, {"table": TABLE, "beginning": (1,)}, []),
    (counting.next_cells, {"table": TABLE, "beginning": ()}, [0, 2]),
    (counting.next_cells, {"table": (1, 0), "beginning": ()}, []),
    (counting.order_at, {"table": TABLE, "number": 3}, (2, 1, 3, 0)),
    (counting.number_of, {"table": TABLE, "order": (2, 1, 3, 0)}, 3),
    (counting.all_orders, {"table": TABLE}, [(0, 2, 1, 3), (2, 0, 1, 3), (2, 1, 0, 3), (2, 1, 3, 0)]),
    (counting.all_orders, {"table": (1, 0)}, []),
    (counting.all_orders, {"table": (None,)}, [()]),
    (times.time_counts, {"table": TABLE, "cell": 1}, [0, 2, 2, 0]),
    (times.count_before, {"table": TABLE, "one": 1, "other": 0}, 2),
    (times.count_before, {"table": TABLE, "one": 2, "other": 3}, 4),
    (times.certain_before, {"table": TABLE, "cell": 3}, (1, 2)),
    (wishes.count_histories, {"table": (0, "?", None)}, 3),
    (wishes.wish_counts, {"table": ("?", "?"), "cell": 0}, [(0, 3), (1, 1)]),
    (wishes.wish_counts, {"table": TABLE, "cell": 3}, [(2, 4)]),
    (wishes.with_wish, {"table": TABLE, "cell": 3, "wish": "?"}, (0, 2, 2, "?", None)),
    (wishes.with_wish, {"table": TABLE, "cell": 3, "wish": 2}, TABLE),
    (views.is_view, {"table": TABLE, "thing": (1, 2)}, True),
    (views.is_view, {"table": TABLE, "thing": [1, 2]}, False),
    (views.views, {"table": TABLE, "many": 2}, [(0, 2), (1, 2)]),
    (views.views, {"table": TABLE, "many": 0}, [()]),
    (views.views, {"table": TABLE, "many": 5}, []),
    (views.views, {"table": (1, 0), "many": 0}, []),
    (views.count_views, {"table": TABLE}, [1, 2, 2, 2, 1]),
    (views.count_views, {"table": (1, 0)}, [0, 0, 0]),
    (views.count_through, {"table": TABLE, "seen": [(2,), (1, 2)]}, 2),
    (views.count_through, {"table": TABLE, "seen": [(1, 2), (2,)]}, 0),
    (views.count_through, {"table": TABLE, "seen": []}, 4),
    (views.first_through, {"table": TABLE, "seen": [(2,), (1, 2), (1, 2)]}, (2, 1, 0, 3)),
    (views.first_through, {"table": TABLE, "seen": []}, (0, 2, 1, 3)),
    (leaving.needed_by, {"table": TABLE, "cell": 2}, (1, 3)),
    (leaving.can_leave, {"table": TABLE}, [0, 3]),
    (leaving.can_leave, {"table": (1, 0)}, []),
    (leaving.left, {"table": TABLE, "cell": 3}, (0, 2, 2, None, None)),
    (leaving.batches, {"table": TABLE}, [[0, 2], [1], [3]]),
    (leaving.batches, {"table": (None, None)}, []),
    (outcomes.is_outcome, {"size": 4, "wishes": [1, 2, 2], "thing": (1, 2, 2, None)}, True),
    (outcomes.is_outcome, {"size": 4, "wishes": [1, 2, 2], "thing": [1, 2, 2, None]}, False),
    (outcomes.outcomes, {"size": 4, "wishes": [1, 2, 2]}, [(None, 1, 2, 2), (1, 2, 2, None)]),
    (outcomes.outcomes, {"size": 2, "wishes": []}, [(None, None)]),
    (outcomes.outcome_counts, {"size": 4, "wishes": [1, 2, 2]}, [((0, 1, 2), 1), ((1, 2, 3), 1)]),
    (outcomes.outcome_counts, {"size": 2, "wishes": []}, [((), 1)]),
    (texts.table_text, {"table": (0, 2, "?", None)}, "0 2 ? -"),
    (texts.table_in, {"text": "0 2 ? -"}, (0, 2, "?", None)),
    (desk.answers, {"text": "store 1"}, []),
    (desk.answers, {"text": "store 1\nput 0\nshow"}, ["0", "0"]),
]

# function, its arguments by name, the error and its fields
RAISING = [
    (cells.nearest, {"table": (0, 1), "wish": 1}, errors.Full, {"many": 2}),
    (cells.cells_of, {"size": 1, "wishes": [0, 0]}, errors.Full, {"many": 1}),
    (cells.filled, {"size": 1, "wishes": [0, 0]}, errors.Full, {"many": 1}),
    (counting.order_at, {"table": TABLE, "number": 4}, errors.NoOrder, {"number": 4}),
    (counting.number_of, {"table": TABLE, "order": (2, 0, 3, 1)}, errors.Misfit, {"place": 2}),
    (counting.number_of, {"table": (1, 0), "order": (0, 1)}, errors.Misfit, {"place": 0}),
    (counting.all_orders, {"table": ("?",) * 6}, errors.TooMany, {"many": 720}),
    (times.time_counts, {"table": (1, 0), "cell": 0}, errors.Impossible, {}),
    (times.time_counts, {"table": TABLE, "cell": 4}, errors.NoObject, {"cell": 4}),
    (times.count_before, {"table": (1, 0), "one": 0, "other": 5}, errors.Impossible, {}),
    (times.count_before, {"table": TABLE, "one": 5, "other": 4}, errors.NoObject, {"cell": 5}),
    (times.certain_before, {"table": (1, 0), "cell": 7}, errors.Impossible, {}),
    (times.certain_before, {"table": TABLE, "cell": -1}, errors.NoObject, {"cell": -1}),
    (wishes.wish_counts, {"table": (1, 0), "cell": 5}, errors.Impossible, {}),
    (wishes.wish_counts, {"table": TABLE, "cell": 4}, errors.NoObject, {"cell": 4}),
    (wishes.with_wish, {"table": TABLE, "cell": 4, "wish": 1}, errors.NoObject, {"cell": 4}),
    (views.views, {"table": ("?",) * 12, "many": 6}, errors.TooMany, {"many": 924}),
    (views.first_through, {"table": (1, 0), "seen": [(0,), ()]}, errors.Impossible, {}),
    (views.first_through, {"table": TABLE, "seen": [(2,), (0,)]}, errors.NoWay, {"place": 1}),
    (leaving.left, {"table": TABLE, "cell": 4}, errors.NoObject, {"cell": 4}),
    (leaving.left, {"table": TABLE, "cell": 1}, errors.Needed, {"cell": 1}),
    (leaving.batches, {"table": (1, 0)}, errors.Impossible, {}),
    (texts.table_in, {"text": "0 2"}, errors.BadText, {"entry": 1}),
    (desk.answers, {"text": "store 1\n"}, errors.BadLine, {"line": 1}),
]


def turned(value):
    """The value with a list or a tuple at each place where one of them stands, at any depth, in all ways."""
    if not isinstance(value, (list, tuple)):
        return [value]
    return [make(inner) for make in (list, tuple) for inner in itertools.product(*[turned(one) for one in value])]


def ways_to_pass(arguments):
    """The arguments with lists and tuples in all ways, except for `thing`."""
    choices = [[value] if name == "thing" else turned(value) for name, value in arguments.items()]
    # A copy of its own for each way, as a function that changed its argument would change another way, too.
    return [copy.deepcopy(dict(zip(arguments, values))) for values in itertools.product(*choices)]


def lists_in(value):
    """The lists in a value, at any depth, the value itself included."""
    if not isinstance(value, (list, tuple)):
        return []
    return [value] * isinstance(value, list) + [inner for one in value for inner in lists_in(one)]


class Calls(unittest.TestCase):
    def test_by_position_and_by_name(self):
        for function, arguments, expected in CALLS:
            for given in ways_to_pass(arguments):
                with self.subTest(function=function.__name__, given=given):
                    self.assertEqual(repr(function(*given.values())), repr(expected))
                    self.assertEqual(repr(function(**given)), repr(expected))
                    self.assertEqual(repr(function(**dict(reversed(given.items())))), repr(expected))

    def test_errors_by_position_and_by_name(self):
        for function, arguments, kind, fields in RAISING:
            for given in ways_to_pass(arguments):
                with self.subTest(function=function.__name__, given=given):
                    with self.assertRaises(kind) as caught:
                        function(*given.values())
                    self.assertEqual(vars(caught.exception), fields)
                    with self.assertRaises(kind) as caught:
                        function(**given)
                    self.assertEqual(vars(caught.exception), fields)

    def test_arguments_are_not_changed(self):
        for function, arguments, *expected in CALLS + RAISING:
            for given in ways_to_pass(arguments):
                before = copy.deepcopy(given)
                with self.subTest(function=function.__name__, given=given):
                    try:
                        function(**given)
                    except (ValueError, LookupError, OverflowError, RuntimeError):
                        pass
                    self.assertEqual(repr(given), repr(before))

    def test_new_lists(self):
        for function, arguments, expected in CALLS:
            if isinstance(expected, list):
                for given in ways_to_pass(arguments):
                    with self.subTest(function=function.__name__, given=given):
                        one, other = function(**given), function(**given)
                        held = [lists_in(one), lists_in(other), lists_in(list(given.values()))]
                        self.assertEqual(len({id(some) for some in sum(held, [])}), len(sum(held, [])))
                        for some in lists_in(one):
                            some.append("more")
                        self.assertEqual(repr(other), repr(expected))
                        self.assertEqual(repr(function(**given)), repr(expected))

    def test_what_was_returned_is_passed_in_again(self):
        table = cells.filled(5, [2, 2, 2, 0])
        for order in counting.all_orders(table):
            self.assertIs(verdicts.shows_order(table, order), True)
            self.assertEqual(counting.order_at(table, counting.number_of(table, order)), order)
        self.assertEqual(counting.count_after(table, counting.next_cells(table, ())), 1)
        self.assertEqual(counting.count_after(table, times.certain_before(table, 3)), 0)
        for many, count in enumerate(views.count_views(table)):
            for view in views.views(table, many):
                self.assertIs(views.is_view(table, view), True)
                self.assertIs(verdicts.shows_order(table, views.first_through(table, [view])), True)
            passing = [views.count_through(table, [view]) for view in views.views(table, many)]
            self.assertEqual((len(passing), sum(passing)), (count, 4))
        self.assertEqual(views.count_through(table, views.views(table, 1)[:1] + views.views(table, 2)[:1]), 1)
        self.assertEqual(leaving.batches(leaving.left(wishes.with_wish(table, 3, "?"), 3)), [[0, 2], [1]])
        for arisen in outcomes.outcomes(5, [2, 2, 2, 0]):
            self.assertEqual(texts.table_in(texts.table_text(arisen)), arisen)
            self.assertGreater(counting.count_orders(arisen), 0)


if __name__ == "__main__":
    unittest.main()
