"""Point 13: taking objects out."""

import unittest

from nearslot.errors import Impossible, Needed, NoObject
from nearslot.leaving import batches, can_leave, left, needed_by
from nearslot.verdicts import verdict

from listing import IMPOSSIBLE, changed_tables, needed, orders, small_tables, taken

TABLES = small_tables(4) + changed_tables(7, 40, 41) + changed_tables(12, 20, 42)


def needing(table, cell):
    """The cells whose objects need the cell, by the way outward from each wish."""
    return [other for other in range(len(table)) if cell in needed(table, other)]


def batch_of(table, cell):
    """The number of the batch of an object of a possible table: one more than those of all that it needs."""
    return 1 + max([batch_of(table, other) for other in needed(table, cell)], default=-1)


class NeededBy(unittest.TestCase):
    def test_every_cell(self):
        for table in TABLES:
            for cell in range(len(table)):
                with self.subTest(table=table, cell=cell):
                    self.assertEqual(repr(needed_by(table, cell)), repr(tuple(needing(table, cell))))

    def test_empty_cells(self):
        self.assertEqual(needed_by((None, 0, None), 0), (1,))
        self.assertEqual(needed_by((None, 0, None), 2), ())
        self.assertEqual(needed_by((3, None, None, 0), 1), (0, 3))

    def test_unknown_wishes_need_nothing(self):
        for cell in range(12):
            self.assertEqual(needed_by(("?",) * 12, cell), ())

    def test_of_many(self):
        for cell in range(12):
            self.assertEqual(needed_by((0,) * 12, cell), tuple(range(cell + 1, 12)))

    def test_one_another(self):
        self.assertEqual([needed_by((1, 0), 0), needed_by((1, 0), 1)], [(1,), (0,)])


class CanLeave(unittest.TestCase):
    def test_every_table(self):
        for table in TABLES:
            expected = [cell for cell in taken(table) if not needing(table, cell)]
            with self.subTest(table=table):
                self.assertEqual(repr(can_leave(table)), repr(expected))

    def test_edges(self):
        self.assertEqual(can_leave((None,)), [])
        self.assertEqual(can_leave((None,) * 12), [])
        self.assertEqual(can_leave((0,)), [0])
        self.assertEqual(can_leave((1, 0)), [])
        self.assertEqual(can_leave((0,) * 12), [11])
        self.assertEqual(can_leave(("?",) * 12), list(range(12)))

    def test_the_last_ones_of_all_orders(self):
        for table in small_tables(4):
            agreeing = orders(table)
            if agreeing != [] and agreeing != [()]:
                with self.subTest(table=table):
                    self.assertEqual(can_leave(table), sorted({order[-1] for order in agreeing}))

    def test_still_possible_without_one(self):
        for table in TABLES:
            if verdict(table)[0] == "order":
                for cell in can_leave(table):
                    with self.subTest(table=table, cell=cell):
                        self.assertEqual(verdict(left(table, cell))[0], "order")


class Left(unittest.TestCase):
    def test_every_cell(self):
        for table in TABLES:
            for cell in taken(table):
                expected = list(table)
                expected[cell] = None
                with self.subTest(table=table, cell=cell):
                    if needing(table, cell):
                        with self.assertRaises(Needed) as caught:
                            left(table, cell)
                        self.assertEqual(caught.exception.cell, cell)
                    else:
                        self.assertEqual(repr(left(table, cell)), repr(tuple(expected)))
                        self.assertEqual(repr(left(list(table), cell)), repr(tuple(expected)))

    def test_no_object(self):
        for table in small_tables(3) + [(None,) * 12, ("?",) * 12]:
            size = len(table)
            for cell in (*range(size), -1, -2, -size, size, size + 1, 10 ** 30, -10 ** 30):
                if cell not in taken(table):
                    with self.subTest(table=table, cell=cell):
                        with self.assertRaises(NoObject) as caught:
                            left(table, cell)
                        self.assertEqual(caught.exception.cell, cell)

    def test_an_empty_cell_that_is_needed_has_no_object(self):
        with self.assertRaises(NoObject) as caught:
            left((None, 0, None), 0)
        self.assertEqual(caught.exception.cell, 0)

    def test_impossible_tables(self):
        self.assertEqual(left((None, 0, None), 1), (None, None, None))
        self.assertEqual(left((1, 0, 2), 2), (1, 0, None))
        with self.assertRaises(Needed) as caught:
            left((1, 0, 2), 1)
        self.assertEqual(caught.exception.cell, 1)


class Batches(unittest.TestCase):
    def test_every_table(self):
        for table in TABLES:
            with self.subTest(table=table):
                if verdict(table)[0] == "order":
                    numbers = {cell: batch_of(table, cell) for cell in taken(table)}
                    expected = [[cell for cell in taken(table) if numbers[cell] == number]
                                for number in range(max(numbers.values(), default=-1) + 1)]
                    self.assertEqual(repr(batches(table)), repr(expected))
                else:
                    with self.assertRaises(Impossible):
                        batches(table)

    def test_edges(self):
        self.assertEqual(batches((None,)), [])
        self.assertEqual(batches((None,) * 12), [])
        self.assertEqual(batches((0,)), [[0]])
        self.assertEqual(batches(("?",) * 12), [list(range(12))])
        self.assertEqual(batches((0,) * 12), [[cell] for cell in range(12)])
        self.assertEqual(batches((0,) * 6 + (11,) * 6), [[cell, 11 - cell] for cell in range(6)])

    def test_impossible(self):
        for table in IMPOSSIBLE:
            with self.subTest(table=table):
                with self.assertRaises(Impossible):
                    batches(table)

    def test_own_lists_inside(self):
        one, other = batches((0, 2, 2, 2, None)), batches((0, 2, 2, 2, None))
        for batch in one:
            batch.append("more")
        self.assertEqual(other, [[0, 2], [1], [3]])
        self.assertEqual(batches((0, 2, 2, 2, None)), [[0, 2], [1], [3]])
        self.assertEqual(len({id(batch) for batch in one + other}), 6)


if __name__ == "__main__":
    unittest.main()
