"""Point 10: when an object came, and which of two came first."""

import math
import unittest

from nearslot.errors import Impossible, NoObject
from nearslot.times import certain_before, count_before, time_counts

from listing import IMPOSSIBLE, Ways, changed_tables, orders, small_tables, taken


class Small(unittest.TestCase):
    """Against a listing of all orders."""

    def every_possible(self):
        for table in small_tables(4) + changed_tables(5, 200, 1) + changed_tables(7, 25, 2):
            agreeing = orders(table)
            if agreeing:
                yield table, agreeing

    def test_time_counts(self):
        for table, agreeing in self.every_possible():
            for cell in taken(table):
                times = [order.index(cell) for order in agreeing]
                expected = [times.count(time) for time in range(len(taken(table)))]
                with self.subTest(table=table, cell=cell):
                    self.assertEqual(repr(time_counts(table, cell)), repr(expected))

    def test_count_before(self):
        for table, agreeing in self.every_possible():
            for one in taken(table):
                for other in taken(table):
                    expected = len([order for order in agreeing if order.index(one) < order.index(other)])
                    with self.subTest(table=table, one=one, other=other):
                        self.assertEqual(count_before(table, one, other), expected)

    def test_certain_before(self):
        for table, agreeing in self.every_possible():
            for cell in taken(table):
                expected = tuple([other for other in taken(table)
                                  if all(order.index(other) < order.index(cell) for order in agreeing)])
                with self.subTest(table=table, cell=cell):
                    self.assertEqual(repr(certain_before(table, cell)), repr(expected))


class Errors(unittest.TestCase):
    def check_impossible(self, function, *arguments):
        with self.subTest(function=function, arguments=arguments):
            with self.assertRaises(Impossible):
                function(*arguments)

    def check_no_object(self, cell, function, *arguments):
        with self.subTest(function=function, arguments=arguments):
            with self.assertRaises(NoObject) as caught:
                function(*arguments)
            self.assertEqual(caught.exception.cell, cell)

    def test_impossible_comes_first(self):
        for table in IMPOSSIBLE:
            size = len(table)
            for cell in (*range(size), -1, -size, size, 10 ** 30):
                self.check_impossible(time_counts, table, cell)
                self.check_impossible(certain_before, table, cell)
                for other in (0, 1, -1, cell, size):
                    self.check_impossible(count_before, table, cell, other)
                    self.check_impossible(count_before, table, other, cell)

    def test_no_object(self):
        for table in ((None,), (0, None), (None, "?", None), (0, 2, 2, 2, None), ("?",) * 12):
            size = len(table)
            empty = [cell for cell in range(size) if table[cell] is None]
            for cell in (*empty, -1, -2, -size, size, size + 1, 10 ** 30, -10 ** 30):
                self.check_no_object(cell, time_counts, table, cell)
                self.check_no_object(cell, certain_before, table, cell)
                self.check_no_object(cell, count_before, table, cell, cell)
                for other in taken(table):
                    self.check_no_object(cell, count_before, table, cell, other)
                    self.check_no_object(cell, count_before, table, other, cell)

    def test_the_first_of_two(self):
        table = (0, 2, 2, 2, None)
        self.check_no_object(4, count_before, table, 4, 9)
        self.check_no_object(9, count_before, table, 9, 4)
        self.check_no_object(-1, count_before, table, -1, 5)

    def test_every_small_table(self):
        for table in small_tables(3):
            if not orders(table):
                self.check_impossible(time_counts, table, 0)
                self.check_impossible(count_before, table, 0, 0)
                self.check_impossible(certain_before, table, 0)
            else:
                for cell in range(-2, len(table) + 2):
                    if cell not in taken(table):
                        self.check_no_object(cell, time_counts, table, cell)
                        self.check_no_object(cell, certain_before, table, cell)
                        self.check_no_object(cell, count_before, table, cell, -9)


class Edges(unittest.TestCase):
    def test_one_object(self):
        for table, cell in (((0,), 0), (("?",), 0), ((None, 1), 1), ((None, None, "?", None), 2)):
            self.assertEqual(time_counts(table, cell), [1])
            self.assertEqual(count_before(table, cell, cell), 0)
            self.assertEqual(certain_before(table, cell), ())

    def test_before_by_way_of_others(self):
        # Every wish here needs only a cell or two directly beside its own one.
        self.assertEqual(certain_before((0, 0, 1, 2, 3), 4), (0, 1, 2, 3))
        self.assertEqual(certain_before(("?", "?", "?", 2, 3), 4), (1, 2, 3))
        self.assertEqual(certain_before((1, 2, 3, "?", "?"), 0), (1, 2, 3))


class Twelve(unittest.TestCase):
    """Orders that are counted without being listed."""

    def test_all_unknown(self):
        table = ("?",) * 12
        for cell in range(12):
            self.assertEqual(time_counts(table, cell), [math.factorial(11)] * 12)
            self.assertEqual(certain_before(table, cell), ())
            for other in range(12):
                expected = 0 if other == cell else math.factorial(12) // 2
                self.assertEqual(count_before(table, cell, other), expected)

    def test_one_order_only(self):
        table = (0,) * 12
        for cell in range(12):
            self.assertEqual(time_counts(table, cell), [1 if time == cell else 0 for time in range(12)])
            self.assertEqual(certain_before(table, cell), tuple(range(cell)))
            for other in range(12):
                self.assertEqual(count_before(table, cell, other), 1 if cell < other else 0)

    def test_against_counts_over_sets(self):
        for table in changed_tables(12, 12, 4) + [("?", None) * 6, (0,) * 6 + (11,) * 6]:
            ways = Ways(table)
            cells = taken(table)
            for cell in cells if ways.many else []:
                before = {other: ways.with_before(other, cell) for other in cells}
                with self.subTest(table=table, cell=cell):
                    expected = [ways.with_time(cell, time) for time in range(len(cells))]
                    self.assertEqual(time_counts(table, cell), expected)
                    self.assertEqual({other: count_before(table, other, cell) for other in cells}, before)
                    certain = tuple([other for other in cells if before[other] == ways.many])
                    self.assertEqual(certain_before(table, cell), certain)

    def test_somewhat_beyond_the_bound(self):
        self.assertEqual(time_counts(("?",) * 16, 5), [math.factorial(15)] * 16)
        self.assertEqual(count_before(("?",) * 16, 9, 2), math.factorial(16) // 2)


if __name__ == "__main__":
    unittest.main()
