"""The examples of the document, as they stand there."""

import ast
import doctest
import unittest

CELLS = '''
>>> from nearslot.cells import is_table
>>> [is_table((0, 2, "?", None)), is_table((0, 4, None)), is_table(())]
[True, False, False]

>>> from nearslot.cells import needs
>>> [needs(5, 3, 2), needs(5, 1, 2), needs(5, 2, 2), needs(5, 4, 1)]
[(1, 2), (2,), (), (0, 1, 2, 3)]

>>> from nearslot.cells import nearest
>>> [nearest((0, 2, 2, None, None), 2), nearest((None, 1, None), 1)]
[3, 0]

>>> from nearslot.cells import cells_of
>>> cells_of(5, [2, 2, 2, 0])
(2, 1, 3, 0)

>>> from nearslot.cells import filled
>>> filled(5, [2, 2, 2, 0])
(0, 2, 2, 2, None)
'''

VERDICTS = '''
>>> from nearslot.verdicts import verdict
>>> [verdict((0, 2, 2, 2, None)), verdict((None, 0, None)), verdict((1, 0))]
[('order', (0, 2, 1, 3)), ('gap', 1, 0), ('both', 0, 1)]

>>> from nearslot.verdicts import shows_order
>>> [shows_order((0, 2, 2, 2, None), (2, 1, 3, 0)), shows_order((0, 2, 2, 2, None), (2, 3, 1, 0))]
[True, False]

>>> from nearslot.verdicts import shows_gap
>>> [shows_gap((None, 0, None), (1, 0)), shows_gap((None, 0, None), (1, 2))]
[True, False]

>>> from nearslot.verdicts import shows_both
>>> [shows_both((1, 0), (1, 0)), shows_both((0, 0), (0, 1))]
[True, False]
'''

COUNTING = '''
>>> from nearslot.counting import count_orders
>>> [count_orders((0, 2, 2, 2, None)), count_orders(("?", "?", "?")), count_orders((1, 0)), count_orders((None,))]
[4, 6, 0, 1]

>>> from nearslot.counting import count_after
>>> [count_after((0, 2, 2, 2, None), (2,)), count_after((0, 2, 2, 2, None), (1,))]
[3, 0]

>>> from nearslot.counting import next_cells
>>> [next_cells((0, 2, 2, 2, None), (2,)), next_cells((0, 2, 2, 2, None), (1,))]
[[0, 1], []]

>>> from nearslot.counting import order_at
>>> order_at((0, 2, 2, 2, None), 3)
(2, 1, 3, 0)

>>> from nearslot.counting import number_of
>>> number_of((0, 2, 2, 2, None), (2, 0, 3, 1))
raises Misfit(place=2)

>>> from nearslot.counting import all_orders
>>> all_orders((0, 2, 2, 2, None))
[(0, 2, 1, 3), (2, 0, 1, 3), (2, 1, 0, 3), (2, 1, 3, 0)]
'''

TIMES = '''
>>> from nearslot.times import time_counts
>>> time_counts((0, 2, 2, 2, None), 1)
[0, 2, 2, 0]

>>> from nearslot.times import count_before
>>> count_before((0, 2, 2, 2, None), 0, 1)
2

>>> from nearslot.times import certain_before
>>> certain_before((0, 2, 2, 2, None), 3)
(1, 2)
'''

WISHES = '''
>>> from nearslot.wishes import count_histories
>>> [count_histories((0, 2, 2, 2, None)), count_histories(("?", "?", "?")), count_histories((None, "?", None))]
[4, 27, 1]

>>> from nearslot.wishes import wish_counts
>>> [wish_counts(("?", "?"), 0), wish_counts((0, 2, 2, 2, None), 3)]
[[(0, 3), (1, 1)], [(2, 4)]]

>>> from nearslot.wishes import with_wish
>>> with_wish((0, 2, 2, 2, None), 3, "?")
(0, 2, 2, '?', None)
'''

VIEWS = '''
>>> from nearslot.views import is_view
>>> [is_view((0, 2, 2, 2, None), (1, 2)), is_view((0, 2, 2, 2, None), (0, 1)), is_view((0, 2, 2, 2, None), (2, 1))]
[True, False, False]

>>> from nearslot.views import views
>>> views((0, 2, 2, 2, None), 2)
[(0, 2), (1, 2)]

>>> from nearslot.views import count_views
>>> count_views((0, 2, 2, 2, None))
[1, 2, 2, 2, 1]

>>> from nearslot.views import count_through
>>> [count_through((0, 2, 2, 2, None), [(1, 2)]), count_through((0, 2, 2, 2, None), [(1, 2), (0, 2)])]
[2, 0]

>>> from nearslot.views import first_through
>>> first_through((0, 2, 2, 2, None), [(1, 2)])
(2, 1, 0, 3)
'''

LEAVING = '''
>>> from nearslot.leaving import needed_by
>>> [needed_by((0, 2, 2, 2, None), 1), needed_by((0, 2, 2, 2, None), 0)]
[(3,), ()]

>>> from nearslot.leaving import can_leave
>>> can_leave((0, 2, 2, 2, None))
[0, 3]

>>> from nearslot.leaving import left
>>> left((0, 2, 2, 2, None), 3)
(0, 2, 2, None, None)

>>> from nearslot.leaving import batches
>>> batches((0, 2, 2, 2, None))
[[0, 2], [1], [3]]
'''

OUTCOMES = '''
>>> from nearslot.outcomes import is_outcome
>>> [is_outcome(4, [1, 2, 2], (1, 2, 2, None)), is_outcome(4, [1, 2, 2], (2, 1, 2, None))]
[True, False]

>>> from nearslot.outcomes import outcomes
>>> outcomes(4, [1, 2, 2])
[(None, 1, 2, 2), (1, 2, 2, None)]

>>> from nearslot.outcomes import outcome_counts
>>> outcome_counts(4, [1, 2, 2])
[((0, 1, 2), 1), ((1, 2, 3), 1)]
'''

STORE = '''
>>> from nearslot.store import Store
>>> store = Store(5)
>>> cells = store.put_all([2, 2, 2])
>>> [cells, store.put(0), store.table(), store.forget(3), store.take_out(3), store.undo(), store.count(), repr(store)]
[[2, 1, 3], 0, (0, 2, 2, 2, None), 12, 3, True, 12, 'Store(4 of 5 cells)']
'''

TEXTS = r'''
>>> from nearslot.texts import table_text
>>> table_text((0, 2, "?", None))
'0 2 ? -'

>>> from nearslot.texts import table_in
>>> table_in("0 2 ? -")
(0, 2, '?', None)

>>> from nearslot.desk import answers
>>> answers("store 5\nput 2\nput 2\nput 2\nshow\ncount\ntake 1\ntimes 3\nleave")
['2', '1', '3', '- 2 2 2 -', '1', 'error Needed', '0 0 1', '3']
'''


def told(source, names):
    """What the document shows for a line: the value, `raises` and the error with its fields, or nothing."""
    try:
        if not isinstance(ast.parse(source).body[0], ast.Expr):
            exec(source, names)
            return ""
        return repr(eval(source, names)) + "\n"
    except Exception as error:
        fields = ", ".join(f"{name}={value!r}" for name, value in vars(error).items())
        return f"raises {type(error).__name__}({fields})\n"


class Examples(unittest.TestCase):
    def check(self, text, many):
        examples = doctest.DocTestParser().get_examples(text)
        names = {}
        self.assertEqual(len(examples), many)
        for example in examples:
            with self.subTest(source=example.source):
                self.assertEqual(told(example.source, names), example.want)

    def test_point_7(self):
        self.check(CELLS, 10)

    def test_point_8(self):
        self.check(VERDICTS, 8)

    def test_point_9(self):
        self.check(COUNTING, 12)

    def test_point_10(self):
        self.check(TIMES, 6)

    def test_point_11(self):
        self.check(WISHES, 6)

    def test_point_12(self):
        self.check(VIEWS, 10)

    def test_point_13(self):
        self.check(LEAVING, 8)

    def test_point_14(self):
        self.check(OUTCOMES, 6)

    def test_point_15(self):
        self.check(STORE, 4)

    def test_point_16(self):
        self.check(TEXTS, 6)


if __name__ == "__main__":
    unittest.main()
