"""Point 9: how many orders agree, and their numbers."""

import itertools
import math
import random
import unittest

from nearslot.counting import all_orders, count_after, count_orders, next_cells, number_of, order_at
from nearslot.errors import Misfit, NoOrder, TooMany

from listing import Ways, changed_tables, orders, small_tables, taken

# Tables with twelve cells: filled and changed ones, and some whose numbers of orders are known.
TWELVES = changed_tables(12, 20, 2) + [
    ("?",) * 12, (0,) * 12, (5,) * 12, tuple(range(12)), (1, 0) + ("?",) * 10, ("?", None) * 6, (None,) * 12,
]


def beginnings(table):
    """All tuples of different taken cells."""
    cells = taken(table)
    return [some for many in range(len(cells) + 1) for some in itertools.permutations(cells, many)]


def misfit_place(agreeing, order):
    """The least index such that no agreeing order begins with the cells up to and including it, or None."""
    for place in range(len(order)):
        if not any(one[:place + 1] == order[:place + 1] for one in agreeing):
            return place
    return None


class Small(unittest.TestCase):
    """Against a listing of all orders."""

    def test_count_orders(self):
        for table in small_tables(5):
            with self.subTest(table=table):
                self.assertEqual(count_orders(table), len(orders(table)))

    def test_count_after_and_next_cells(self):
        for table in small_tables(4) + changed_tables(6, 10, 3):
            agreeing = orders(table)
            for cells in beginnings(table):
                going_on = [order for order in agreeing if order[:len(cells)] == cells]
                following = sorted({order[len(cells)] for order in going_on if len(order) > len(cells)})
                with self.subTest(table=table, beginning=cells):
                    self.assertEqual(count_after(table, cells), len(going_on))
                    self.assertEqual(next_cells(table, cells), following)

    def test_order_at_and_all_orders(self):
        for table in small_tables(4) + changed_tables(6, 20, 4):
            agreeing = orders(table)
            with self.subTest(table=table):
                self.assertEqual([order_at(table, number) for number in range(len(agreeing))], agreeing)
                if len(agreeing) <= 300:
                    self.assertEqual(repr(all_orders(table)), repr(agreeing))
                else:
                    self.check_too_many(table, len(agreeing))

    def test_order_at_without_such_an_order(self):
        for table in small_tables(3) + changed_tables(6, 20, 4):
            many = len(orders(table))
            for number in (-1, -2, -many - 1, -10 ** 30, many, many + 1, 10 ** 30):
                with self.subTest(table=table, number=number):
                    with self.assertRaises(NoOrder) as caught:
                        order_at(table, number)
                    self.assertEqual(caught.exception.number, number)

    def test_number_of(self):
        for table in small_tables(4) + changed_tables(6, 10, 5):
            agreeing = orders(table)
            for order in itertools.permutations(taken(table)):
                with self.subTest(table=table, order=order):
                    if order in agreeing:
                        self.assertEqual(number_of(table, order), agreeing.index(order))
                    else:
                        with self.assertRaises(Misfit) as caught:
                            number_of(table, order)
                        self.assertEqual(caught.exception.place, misfit_place(agreeing, order))

    def check_too_many(self, table, many):
        with self.assertRaises(TooMany) as caught:
            all_orders(table)
        self.assertEqual(caught.exception.many, many)


class Edges(unittest.TestCase):
    def test_no_objects(self):
        for table in ((None,), (None,) * 5):
            self.assertEqual(count_orders(table), 1)
            self.assertEqual(count_after(table, ()), 1)
            self.assertEqual(next_cells(table, ()), [])
            self.assertEqual(order_at(table, 0), ())
            self.assertEqual(number_of(table, ()), 0)
            self.assertEqual(all_orders(table), [()])

    def test_impossible_tables(self):
        for table in ((1, 0), (None, 0, None), (1, 0) + ("?",) * 10, ("?",) * 9 + (None, 9)):
            cells = tuple(taken(table))
            with self.subTest(table=table):
                self.assertEqual(count_orders(table), 0)
                for beginning in ((), cells[-1:], cells[:1]):
                    self.assertEqual(count_after(table, beginning), 0)
                    self.assertEqual(next_cells(table, beginning), [])
                self.assertEqual(all_orders(table), [])
                with self.assertRaises(NoOrder):
                    order_at(table, 0)
                for order in (cells, cells[::-1]):
                    with self.assertRaises(Misfit) as caught:
                        number_of(table, order)
                    self.assertEqual(caught.exception.place, 0)

    def test_misfit_at_the_object_that_comes_too_early(self):
        with self.assertRaises(Misfit) as caught:
            number_of((0, 0, 0, 0), (0, 1, 3, 2))
        self.assertEqual(caught.exception.place, 2)
        with self.assertRaises(Misfit) as caught:
            number_of(("?", "?", 1, None), (0, 2, 1))
        self.assertEqual(caught.exception.place, 1)

    def test_the_whole_order_as_a_beginning(self):
        self.assertEqual(count_after((0, 2, 2, 2, None), (2, 1, 3, 0)), 1)
        self.assertEqual(next_cells((0, 2, 2, 2, None), (2, 1, 3, 0)), [])
        self.assertEqual(count_after((0, 2, 2, 2, None), (2, 3, 1, 0)), 0)
        self.assertEqual(next_cells((0, 2, 2, 2, None), (2, 3)), [])

    def test_most_listed(self):
        table = (1, 1, 0, 1, 4, 5, 3, 3, 3, 9)
        self.assertEqual(len(orders(table)), 300)
        self.assertEqual(all_orders(table), orders(table))

    def test_more_than_are_listed(self):
        tables = [((4, 4, 4, 4, 4, 4, 4, 7, 8, 7, 8, None), 301), ((3, 3, 2, 3, "?", 4, 5, 7), 304), (("?",) * 6, 720)]
        for table, many in tables:
            with self.subTest(table=table):
                self.assertEqual(len(orders(table)), many)
                with self.assertRaises(TooMany) as caught:
                    all_orders(table)
                self.assertEqual(caught.exception.many, many)


class Twelve(unittest.TestCase):
    """Orders that are counted without being listed."""

    def test_known_numbers(self):
        self.assertEqual(count_orders(("?",) * 12), 479001600)
        self.assertEqual(count_orders(tuple(range(12))), 479001600)
        self.assertEqual(count_orders((0,) * 12), 1)
        self.assertEqual(count_orders((5,) * 12), 1)
        self.assertEqual(count_orders((0,) * 6 + (11,) * 6), math.comb(12, 6))
        self.assertEqual(count_orders((0,) * 4 + ("?",) * 8), math.factorial(12) // math.factorial(4))
        self.assertEqual(count_after(("?",) * 12, (3, 9)), math.factorial(10))

    def test_first_and_last_numbers(self):
        rising = tuple(range(12))
        self.assertEqual(order_at(("?",) * 12, 0), rising)
        self.assertEqual(order_at(("?",) * 12, 479001599), rising[::-1])
        self.assertEqual(number_of(("?",) * 12, rising), 0)
        self.assertEqual(number_of(("?",) * 12, rising[::-1]), 479001599)
        for number in (479001600, -1):
            with self.assertRaises(NoOrder) as caught:
                order_at(("?",) * 12, number)
            self.assertEqual(caught.exception.number, number)
        with self.assertRaises(TooMany) as caught:
            all_orders(("?",) * 12)
        self.assertEqual(caught.exception.many, 479001600)

    def test_against_counts_over_sets(self):
        for table in TWELVES:
            ways = Ways(table)
            with self.subTest(table=table):
                self.assertEqual(count_orders(table), ways.many)
                chance = random.Random(7)
                for number in sorted({0, ways.many - 1, *[chance.randrange(ways.many) for at in range(3)]}
                                     if ways.many else []):
                    self.check_number(table, ways, number)

    def check_number(self, table, ways, number):
        """Follow the order with that number step by step and add up what is passed over."""
        order = order_at(table, number)
        passed = 0
        for at, cell in enumerate(order):
            came = order[:at]
            following = [lower for lower in taken(table) if lower not in came and ways.begin_with((*came, lower))]
            self.assertIn(cell, following)
            self.assertEqual(next_cells(table, came), following)
            self.assertEqual(count_after(table, came), ways.begin_with(came))
            passed += sum(ways.begin_with((*came, lower)) for lower in following if lower < cell)
        self.assertEqual(len(order), len(taken(table)))
        self.assertEqual(passed, number)
        self.assertEqual(number_of(table, order), number)

    def test_misfits(self):
        chance = random.Random(8)
        for table in TWELVES:
            ways = Ways(table)
            for trial in range(5):
                order = taken(table)
                chance.shuffle(order)
                places = [at for at in range(len(order)) if not ways.begin_with(order[:at + 1])]
                if places:
                    with self.subTest(table=table, order=order):
                        with self.assertRaises(Misfit) as caught:
                            number_of(table, tuple(order))
                        self.assertEqual(caught.exception.place, places[0])
                        self.assertEqual(count_after(table, order), 0)
                        self.assertEqual(next_cells(table, order[:places[0] + 1]), [])

    def test_somewhat_beyond_the_bound(self):
        self.assertEqual(count_orders(("?",) * 16), math.factorial(16))
        self.assertEqual(order_at(("?",) * 16, math.factorial(16) - 1), tuple(range(15, -1, -1)))


if __name__ == "__main__":
    unittest.main()
