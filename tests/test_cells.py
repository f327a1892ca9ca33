"""Point 7: cells and tables, by the definitions of points 4 and 5."""

import copy
import itertools
import unittest

from nearslot.cells import cells_of, filled, is_table, nearest, needs
from nearslot.errors import Full

from listing import nested, outward, put_in


def wish_lists(most_cells):
    """All sizes up to that many cells, each with all lists of wishes that it has room for."""
    for size in range(1, most_cells + 1):
        for many in range(size + 1):
            for wishes in itertools.product(range(size), repeat=many):
                yield size, wishes


class IsTable(unittest.TestCase):
    def check(self, thing, expected):
        before = copy.deepcopy(thing)
        with self.subTest(thing=thing):
            self.assertIs(is_table(thing), expected)
            self.assertEqual(repr(thing), repr(before))

    def test_one_cell(self):
        for entry in (None, "?", 0):
            self.check((entry,), True)
        for entry in (1, -1, True, False, "", "0", (), (0,), []):
            self.check((entry,), False)

    def test_longer_rows(self):
        self.check((0, 2, 2, 2, None), True)
        self.check((None, None, None), True)
        self.check(("?", "?", "?", "?"), True)
        self.check((11,) * 12, True)
        self.check((12,) * 12, False)

    def test_the_bounds_do_not_apply(self):
        self.check((None,) * 13, True)
        self.check((39, "?", None, 0) * 10, True)
        self.check((40, "?", None, 0) * 10, False)

    def test_impossible_tables_are_tables(self):
        self.check((1, 0), True)
        self.check((None, 0, None), True)
        self.check((2, None, 0), True)

    def test_empty_tuple(self):
        self.check((), False)

    def test_lists_are_no_tables(self):
        for thing in ([], [0], [None], [0, 2, "?", None], ["?"]):
            self.check(thing, False)

    def test_wrong_entry_at_every_place(self):
        good = (0, None, "?", 3)
        wrong = (-1, -4, 4, 5, 10 ** 30, True, False, "", "??", " ?", "-", "0", "None", (), (0,), ("?",), [], [0])
        self.check(good, True)
        for place in range(len(good)):
            for entry in wrong:
                self.check(good[:place] + (entry,) + good[place + 1:], False)

    def test_every_wish_of_every_size(self):
        for size in range(1, 13):
            for place in range(size):
                for wish in range(-2, size + 3):
                    row = (None,) * place + (wish,) + (None,) * (size - place - 1)
                    self.check(row, 0 <= wish < size)

    def test_every_short_row(self):
        right = {1: [None, "?", 0], 2: [None, "?", 0, 1], 3: [None, "?", 0, 1, 2]}
        for size in (1, 2, 3):
            kinds = [(entry, True) for entry in right[size]]
            kinds += [(entry, False) for entry in (-1, size, True, False, "x", ())]
            for row in itertools.product(kinds, repeat=size):
                self.check(tuple([entry for entry, good in row]), all(good for entry, good in row))

    def test_no_tuple(self):
        for thing in (0, 1, -1, 12, 10 ** 30, True, False, None, "", "?", "??", "0 2 ? -", "(0,)"):
            self.check(thing, False)

    def test_nested(self):
        for thing in (((0,),), ((0, None), (1, None)), [(0,)], ([0],), ((),), [[]], (((None,),),)):
            self.check(thing, False)
        for depth in range(2, 17):
            self.check(nested(depth, tuple), False)
            self.check(nested(depth, list), False)

    def test_by_name(self):
        self.assertIs(is_table(thing=(0, None)), True)
        self.assertIs(is_table(thing=[0, None]), False)


class Needs(unittest.TestCase):
    def every_one(self):
        for size in range(1, 13):
            for cell in range(size):
                for wish in range(size):
                    yield size, cell, wish

    def test_against_the_distances(self):
        for size, cell, wish in self.every_one():
            expected = []
            for other in range(size):
                nearer = abs(other - wish) < abs(cell - wish)
                lower_tie = abs(other - wish) == abs(cell - wish) and other < cell
                if nearer or lower_tie:
                    expected.append(other)
            with self.subTest(size=size, cell=cell, wish=wish):
                self.assertEqual(needs(size, cell, wish), tuple(expected))

    def test_against_the_way_outward(self):
        for size, cell, wish in self.every_one():
            way = outward(size, wish)
            with self.subTest(size=size, cell=cell, wish=wish):
                self.assertEqual(needs(size, cell, wish), tuple(sorted(way[:way.index(cell)])))

    def test_interval_directly_beside_the_cell(self):
        for size, cell, wish in self.every_one():
            found = needs(size, cell, wish)
            with self.subTest(size=size, cell=cell, wish=wish):
                self.assertIs(type(found), tuple)
                self.assertNotIn(cell, found)
                if cell == wish:
                    self.assertEqual(found, ())
                else:
                    self.assertEqual(found, tuple(range(found[0], found[-1] + 1)))
                    self.assertIn(cell, (found[0] - 1, found[-1] + 1))

    def test_ties(self):
        self.assertEqual(needs(3, 0, 1), (1,))
        self.assertEqual(needs(3, 2, 1), (0, 1))

    def test_edges_of_the_row(self):
        self.assertEqual(needs(1, 0, 0), ())
        self.assertEqual(needs(12, 11, 0), tuple(range(11)))
        self.assertEqual(needs(12, 0, 11), tuple(range(1, 12)))
        self.assertEqual(needs(5, 0, 1), (1,))
        self.assertEqual(needs(5, 4, 3), (2, 3))

    def test_by_name(self):
        self.assertEqual(needs(size=5, cell=3, wish=2), (1, 2))
        self.assertEqual(needs(wish=2, size=5, cell=3), (1, 2))


class Nearest(unittest.TestCase):
    def test_every_row_with_a_free_cell(self):
        for size in range(1, 8):
            for row in itertools.product((None, "?"), repeat=size):
                if None not in row:
                    continue
                for wish in range(size):
                    expected = [cell for cell in outward(size, wish) if row[cell] is None][0]
                    with self.subTest(row=row, wish=wish):
                        self.assertEqual(nearest(row, wish), expected)
                        self.assertEqual(nearest(list(row), wish), expected)

    def test_no_nearer_cell_is_free(self):
        row = (0, None, 0, 3, 3, "?", None, None, 8, None, 10, 11)
        for wish in range(12):
            cell = nearest(row, wish)
            with self.subTest(wish=wish):
                self.assertIsNone(row[cell])
                self.assertNotIn(None, [row[other] for other in needs(12, cell, wish)])

    def test_ties_go_to_the_lower_cell(self):
        self.assertEqual(nearest((None, 1, None), 1), 0)
        self.assertEqual(nearest((None, 1, 2, 3, None), 2), 0)

    def test_a_wish_for_cell_0_takes_its_cell(self):
        self.assertEqual(nearest((0, None), 0), 1)
        self.assertEqual(nearest((0, 0, None), 1), 2)

    def test_edges_of_the_row(self):
        self.assertEqual(nearest((None,), 0), 0)
        self.assertEqual(nearest((0,) + (None,) * 11, 0), 1)
        self.assertEqual(nearest((None,) * 11 + (11,), 11), 10)
        self.assertEqual(nearest((None,) + (0,) * 11, 11), 0)
        self.assertEqual(nearest((0,) * 11 + (None,), 0), 11)

    def test_impossible_tables_and_unknown_wishes_count_as_taken(self):
        self.assertEqual(nearest((1, 0, None), 0), 2)
        self.assertEqual(nearest(("?", "?", None), 0), 2)

    def test_full(self):
        for row in ((0,), ("?",), (1, 0), (0, 0, "?"), (5,) * 12):
            for wish in range(len(row)):
                for given in (row, list(row)):
                    with self.subTest(given=given, wish=wish):
                        with self.assertRaises(Full) as caught:
                            nearest(given, wish)
                        self.assertEqual(caught.exception.many, len(row))

    def test_the_table_is_not_changed(self):
        row = [0, 2, 2, None, None]
        self.assertEqual(nearest(row, 2), 3)
        self.assertEqual(nearest(row, 2), 3)
        self.assertEqual(row, [0, 2, 2, None, None])
        taken = [0, 1]
        with self.assertRaises(Full):
            nearest(taken, 0)
        self.assertEqual(taken, [0, 1])

    def test_by_name(self):
        self.assertEqual(nearest(table=(0, 2, 2, None, None), wish=2), 3)
        self.assertEqual(nearest(wish=2, table=[0, 2, 2, None, None]), 3)


class PutIn(unittest.TestCase):
    """What cells_of and filled have in common."""

    def test_every_list_of_wishes(self):
        for size, wishes in wish_lists(5):
            with self.subTest(size=size, wishes=wishes):
                self.assertEqual((cells_of(size, wishes), filled(size, wishes)), put_in(size, wishes))

    def test_full_rows(self):
        for wish in range(12):
            wishes = [wish] * 12
            with self.subTest(wish=wish):
                self.assertEqual(cells_of(12, wishes), tuple(outward(12, wish)))
                self.assertEqual(filled(12, wishes), (wish,) * 12)
        mixed = [3, 3, 11, 0, 11, 0, 5, 5, 5, 7, 7, 0]
        self.assertEqual((cells_of(12, mixed), filled(12, mixed)), put_in(12, mixed))

    def test_no_wishes(self):
        for size in (1, 2, 12):
            for wishes in ([], ()):
                with self.subTest(size=size, wishes=wishes):
                    self.assertEqual(cells_of(size, wishes), ())
                    self.assertEqual(filled(size, wishes), (None,) * size)

    def test_ties_go_to_the_lower_cell(self):
        self.assertEqual(cells_of(3, [1, 1, 1]), (1, 0, 2))
        self.assertEqual(filled(3, [1, 1]), (1, 1, None))

    def test_edges_of_the_row(self):
        self.assertEqual(cells_of(1, [0]), (0,))
        self.assertEqual(filled(1, [0]), (0,))
        self.assertEqual(cells_of(4, [0, 0, 0]), (0, 1, 2))
        self.assertEqual(cells_of(4, [3, 3, 3]), (3, 2, 1))
        self.assertEqual(filled(4, [0, 0, 3]), (0, 0, None, 3))

    def test_the_order_of_the_wishes_matters(self):
        self.assertEqual(filled(3, [0, 1, 0]), (0, 1, 0))
        self.assertEqual(filled(3, [0, 0, 1]), (0, 0, 1))

    def test_more_wishes_than_cells(self):
        for size in range(1, 13):
            for more in (1, 2, 5):
                for wishes in ([0] * (size + more), (size - 1,) * (size + more)):
                    for function in (cells_of, filled):
                        with self.subTest(function=function, size=size, wishes=wishes):
                            with self.assertRaises(Full) as caught:
                                function(size, wishes)
                            self.assertEqual(caught.exception.many, size)

    def test_lists_and_tuples_are_the_same_and_not_changed(self):
        for function in (cells_of, filled):
            wishes = [2, 2, 2, 0]
            with self.subTest(function=function):
                self.assertEqual(function(5, wishes), function(5, tuple(wishes)))
                self.assertEqual(wishes, [2, 2, 2, 0])
                with self.assertRaises(Full):
                    function(3, wishes)
                self.assertEqual(wishes, [2, 2, 2, 0])

    def test_tuples_are_returned(self):
        for function in (cells_of, filled):
            for wishes in ([2, 2], (2, 2)):
                with self.subTest(function=function, wishes=wishes):
                    self.assertIs(type(function(5, wishes)), tuple)

    def test_filled_returns_tables(self):
        for size, wishes in wish_lists(4):
            with self.subTest(size=size, wishes=wishes):
                self.assertIs(is_table(filled(size, wishes)), True)

    def test_by_name(self):
        self.assertEqual(cells_of(size=5, wishes=[2, 2, 2, 0]), (2, 1, 3, 0))
        self.assertEqual(cells_of(wishes=(2, 2, 2, 0), size=5), (2, 1, 3, 0))
        self.assertEqual(filled(size=5, wishes=[2, 2, 2, 0]), (0, 2, 2, 2, None))
        self.assertEqual(filled(wishes=(2, 2, 2, 0), size=5), (0, 2, 2, 2, None))


if __name__ == "__main__":
    unittest.main()
