"""Point 11: histories, and what unknown wishes can have been."""

import itertools
import math
import unittest

from nearslot.counting import count_orders
from nearslot.errors import Impossible, NoObject
from nearslot.wishes import count_histories, wish_counts, with_wish

from listing import IMPOSSIBLE, changed_tables, count_histories_over_sets, histories, orders, small_tables, taken

TWELVES = changed_tables(12, 3, 21) + [("?", None) * 6, (None, "?") * 6, ("?",) * 5 + (0,) + ("?",) * 6]


class Small(unittest.TestCase):
    """Against all rows of wishes put in one after the other."""

    def test_count_histories(self):
        for table in small_tables(4) + changed_tables(5, 60, 11):
            with self.subTest(table=table):
                self.assertEqual(count_histories(table), len(histories(table)))

    def test_wish_counts(self):
        for table in small_tables(3) + changed_tables(4, 60, 12) + changed_tables(5, 20, 13):
            found = histories(table)
            for cell in taken(table) if found else []:
                wishes = [known[cell] for order, known in found]
                expected = [(wish, wishes.count(wish)) for wish in sorted(set(wishes))]
                with self.subTest(table=table, cell=cell):
                    self.assertEqual(repr(wish_counts(table, cell)), repr(expected))

    def test_the_order_and_the_wishes_both_count(self):
        for table in small_tables(3):
            unknown = [cell for cell in taken(table) if table[cell] == "?"]
            total = 0
            for wishes in itertools.product(range(len(table)), repeat=len(unknown)):
                known = list(table)
                for cell, wish in zip(unknown, wishes):
                    known[cell] = wish
                total += len(orders(tuple(known)))
            with self.subTest(table=table):
                self.assertEqual(count_histories(table), total)


class Sums(unittest.TestCase):
    def test_histories_by_wish_sum_to_all(self):
        for table in small_tables(4) + changed_tables(8, 20, 14) + TWELVES:
            many = count_histories(table)
            for cell in taken(table) if many else []:
                pairs = wish_counts(table, cell)
                with self.subTest(table=table, cell=cell):
                    self.assertEqual(sum(count for wish, count in pairs), many)
                    self.assertEqual([wish for wish, count in pairs], sorted({wish for wish, count in pairs}))
                    for wish, count in pairs:
                        self.assertGreater(count, 0)
                        self.assertEqual(count_histories(with_wish(table, cell, wish)), count)

    def test_known_wishes_leave_the_orders(self):
        for table in small_tables(4):
            if "?" not in table:
                with self.subTest(table=table):
                    self.assertEqual(count_histories(table), count_orders(table))
                    for cell in taken(table) if count_orders(table) else []:
                        self.assertEqual(wish_counts(table, cell), [(table[cell], count_orders(table))])


class Edges(unittest.TestCase):
    def test_no_objects(self):
        for size in (1, 2, 12):
            self.assertEqual(count_histories((None,) * size), 1)

    def test_one_object(self):
        # Into an empty row an object goes where it wishes.
        for size in (1, 2, 5, 12):
            for cell in range(size):
                table = tuple(["?" if place == cell else None for place in range(size)])
                self.assertEqual(count_histories(table), 1)
                self.assertEqual(wish_counts(table, cell), [(cell, 1)])

    def test_impossible_tables(self):
        for table in IMPOSSIBLE:
            with self.subTest(table=table):
                self.assertEqual(count_histories(table), 0)

    def test_empty_cells_are_never_wished_past(self):
        self.assertEqual(wish_counts((None, "?", "?", None), 1), [(1, 2), (2, 1)])
        self.assertEqual(wish_counts((None, "?", "?", None), 2), [(2, 3)])

    def test_the_lower_cell_of_two(self):
        self.assertEqual(wish_counts(("?", 1, None), 0), [(0, 2), (1, 1)])
        self.assertEqual(wish_counts((None, 1, "?"), 2), [(2, 2)])


class Errors(unittest.TestCase):
    def test_impossible_comes_first(self):
        for table in IMPOSSIBLE + [table for table in small_tables(3) if not orders(table)]:
            for cell in (*range(len(table)), -1, -len(table), len(table), 10 ** 30):
                with self.subTest(table=table, cell=cell):
                    with self.assertRaises(Impossible):
                        wish_counts(table, cell)

    def test_no_object(self):
        possible = [table for table in small_tables(3) if orders(table)]
        for table in possible + [(None,) * 12, ("?",) * 12]:
            self.check_no_object(wish_counts, table)

    def test_no_object_to_change(self):
        for table in small_tables(3) + IMPOSSIBLE + [("?",) * 12]:
            for wish in ("?", 0, len(table) - 1):
                self.check_no_object(with_wish, table, wish)

    def check_no_object(self, function, table, *more):
        size = len(table)
        for cell in (*range(size), -1, -size, size, size + 1, 10 ** 30, -10 ** 30):
            if cell not in taken(table):
                with self.subTest(function=function, table=table, cell=cell):
                    with self.assertRaises(NoObject) as caught:
                        function(table, cell, *more)
                    self.assertEqual(caught.exception.cell, cell)


class WithWish(unittest.TestCase):
    def test_that_entry_alone(self):
        for table in small_tables(3) + changed_tables(12, 5, 15):
            for cell in taken(table):
                for wish in ("?", *range(len(table))):
                    expected = list(table)
                    expected[cell] = wish
                    with self.subTest(table=table, cell=cell, wish=wish):
                        self.assertEqual(repr(with_wish(table, cell, wish)), repr(tuple(expected)))
                        self.assertEqual(repr(with_wish(list(table), cell, wish)), repr(tuple(expected)))

    def test_impossible_tables(self):
        self.assertEqual(with_wish((1, 0), 1, 1), (1, 1))
        self.assertEqual(with_wish((0, 0), 0, 1), (1, 0))
        self.assertEqual(with_wish((None, 0), 1, "?"), (None, "?"))


class Twelve(unittest.TestCase):
    """Histories that are counted without being listed."""

    def test_all_unknown(self):
        # Each row of wishes fills a row of as many cells in one way.
        for size in range(1, 13):
            self.assertEqual(count_histories(("?",) * size), size ** size)
        self.assertEqual(count_histories(("?",) * 16), 16 ** 16)

    def test_wishes_of_all_unknown(self):
        for cell in range(12):
            pairs = wish_counts(("?",) * 12, cell)
            self.assertEqual([wish for wish, many in pairs], list(range(12)))
            self.assertEqual(sum(many for wish, many in pairs), 12 ** 12)
            # The wish for the cell itself is the most frequent one.
            self.assertEqual(max(pairs, key=lambda pair: pair[1])[0], cell)
        for wish in range(12):
            # Over all cells, an object wishes for each cell equally often.
            self.assertEqual(sum(dict(wish_counts(("?",) * 12, cell))[wish] for cell in range(12)), 12 ** 12)

    def test_parts_that_do_not_meet(self):
        self.assertEqual(count_histories(("?", None) * 6), math.factorial(6))
        self.assertEqual(count_histories(("?",) * 5 + (None, None) + ("?",) * 5),
                         math.comb(10, 5) * count_histories(("?",) * 5 + (None,)) * count_histories((None,) + ("?",) * 5))

    def test_against_counts_over_sets(self):
        for table in TWELVES:
            with self.subTest(table=table):
                self.assertEqual(count_histories(table), count_histories_over_sets(table))


if __name__ == "__main__":
    unittest.main()
