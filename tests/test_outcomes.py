"""Point 14: the tables that arise from given wishes."""

import itertools
import random
import unittest

from nearslot.cells import is_table
from nearslot.outcomes import is_outcome, outcome_counts, outcomes
from nearslot.verdicts import verdict

from listing import nested, put_in, tables, taken


def arising(size, wishes):
    """All orders of the wishes put in one after the other, in ascending order if None is taken for -1."""
    found = {put_in(size, some)[1] for some in itertools.permutations(wishes)}
    return sorted(found, key=lambda table: [-1 if entry is None else entry for entry in table])


def counted(found):
    rows = [tuple(taken(table)) for table in found]
    return [(row, rows.count(row)) for row in sorted(set(rows))]


def small_rows(most_cells):
    """All sizes up to that many cells, with all lists of wishes, those that differ in their order too."""
    return [(size, list(wishes)) for size in range(1, most_cells + 1) for many in range(size + 1)
            for wishes in itertools.product(range(size), repeat=many)]


def longer_rows():
    chance = random.Random(51)
    rows = []
    for size in (5, 6, 7, 9, 12):
        for trial in range(4):
            middle = chance.randrange(size)
            wishes = [min(size - 1, max(0, middle + chance.randrange(-2, 3))) for at in range(min(size, 6))]
            rows.append((size, wishes))
    return rows + [(12, [5] * 6), (12, [0, 0, 0, 11, 11, 11]), (6, [0, 1, 2, 3, 4, 5]), (6, [5, 4, 5, 4, 5, 4])]


class Small(unittest.TestCase):
    """Against all orders of the wishes."""

    def test_outcomes(self):
        for size, wishes in small_rows(4) + longer_rows():
            with self.subTest(size=size, wishes=wishes):
                self.assertEqual(repr(outcomes(size, wishes)), repr(arising(size, wishes)))

    def test_outcome_counts(self):
        for size, wishes in small_rows(4) + longer_rows():
            with self.subTest(size=size, wishes=wishes):
                self.assertEqual(repr(outcome_counts(size, wishes)), repr(counted(arising(size, wishes))))

    def test_is_outcome_of_every_table(self):
        for size, wishes in small_rows(3):
            found = arising(size, wishes)
            for other in (1, 2, 3):
                for thing in tables(other):
                    with self.subTest(size=size, wishes=wishes, thing=thing):
                        self.assertIs(is_outcome(size, wishes, thing), thing in found)
                        self.assertIs(is_outcome(size, wishes, list(thing)), False)

    def test_is_outcome_of_every_arrangement(self):
        for size, wishes in longer_rows()[:12]:
            found = arising(size, wishes)
            entries = wishes + [None] * (size - len(wishes))
            chance = random.Random(52)
            for thing in found + [tuple(chance.sample(entries, size)) for trial in range(200)]:
                with self.subTest(size=size, wishes=wishes, thing=thing):
                    self.assertIs(is_outcome(size, wishes, thing), thing in found)

    def test_exactly_the_possible_tables_with_these_wishes(self):
        for size, wishes in small_rows(3):
            expected = [table for table in tables(size) if verdict(table)[0] == "order" and "?" not in table
                        and sorted(entry for entry in table if entry is not None) == sorted(wishes)]
            with self.subTest(size=size, wishes=wishes):
                self.assertEqual(set(outcomes(size, wishes)), set(expected))


class Edges(unittest.TestCase):
    def test_no_wishes(self):
        for size in (1, 2, 12):
            self.assertEqual(outcomes(size, []), [(None,) * size])
            self.assertEqual(outcome_counts(size, []), [((), 1)])
            self.assertIs(is_outcome(size, [], (None,) * size), True)
            self.assertIs(is_outcome(size, [], (None,) * (size + 1)), False)

    def test_one_cell(self):
        self.assertEqual(outcomes(1, [0]), [(0,)])
        self.assertEqual(outcome_counts(1, [0]), [((0,), 1)])

    def test_equal_wishes_give_one_table(self):
        # The cells 5, 4, 6, 3, 7 and 2, one after the other.
        self.assertEqual(outcomes(12, [5] * 6), [(None,) * 2 + (5,) * 6 + (None,) * 4])
        self.assertEqual(outcomes(6, [0] * 6), [(0,) * 6])

    def test_none_is_less_than_every_wish(self):
        found = outcomes(3, [1, 0])
        self.assertEqual(found, [(0, 1, None)])
        self.assertEqual(outcomes(4, [1, 1, 2]), [(1, 1, 2, None)])
        self.assertEqual(outcomes(4, [2, 1, 2]), [(None, 1, 2, 2), (1, 2, 2, None)])

    def test_several_tables_with_the_same_cells(self):
        self.assertEqual(outcomes(3, [0, 0, 1]), [(0, 0, 1), (0, 1, 0)])
        self.assertEqual(outcome_counts(3, [0, 0, 1]), [((0, 1, 2), 2)])

    def test_the_order_of_the_wishes_does_not_matter(self):
        for wishes in itertools.permutations([1, 2, 2, 0]):
            self.assertEqual(outcomes(5, list(wishes)), outcomes(5, [0, 1, 2, 2]))
            self.assertEqual(outcome_counts(5, list(wishes)), outcome_counts(5, [0, 1, 2, 2]))

    def test_tables_are_returned(self):
        for table in outcomes(12, [4, 5, 5, 6, 6, 4]):
            self.assertIs(is_table(table), True)
            self.assertIs(is_outcome(12, [4, 5, 5, 6, 6, 4], table), True)

    def test_somewhat_beyond_the_bound(self):
        wishes = [5, 5, 6, 6, 7, 7, 4]
        self.assertEqual(outcomes(13, wishes), arising(13, wishes))


class AnyValue(unittest.TestCase):
    def test_no_outcome(self):
        things = [
            0, 1, -1, 10 ** 30, True, False, None, "", "0", "?", "1 2 2 -", [], [1, 2, 2, None], (), (1,), (1, 2, 2),
            (1, 2, 2, None, None), (1, 2, 2, "?"), ("?", 2, 2, None), (1, 2, 2, 2), (True, 2, 2, None),
            (1, 2, 2, False), (1, 2, 2, ""), (1, 2, 2, "-"), (1, 2, 2, ()), ((1,), 2, 2, None), ([1, 2, 2, None],),
            (1, 2, 2, -1), (1, 2, 2, 4), (1, 2, "2", None), (1, 1, 2, None), (None,) * 4, ("?",) * 4, (1, 2, None, 2),
            *[nested(depth, make) for depth in range(1, 17) for make in (list, tuple)],
        ]
        for thing in things:
            for wishes in ([1, 2, 2], [2, 1, 2]):
                with self.subTest(thing=thing):
                    self.assertIs(is_outcome(4, wishes, thing), False)
        self.assertIs(is_outcome(4, [1, 2, 2], (1, 2, 2, None)), True)

    def test_booleans_are_no_wishes(self):
        self.assertIs(is_outcome(2, [0, 1], (0, 1)), True)
        self.assertIs(is_outcome(2, [0, 1], (False, True)), False)
        self.assertIs(is_outcome(2, [0, 1], (0, True)), False)

    def test_the_bounds_do_not_apply(self):
        self.assertIs(is_outcome(12, [5] * 6, (None,) * 40), False)
        self.assertIs(is_outcome(12, list(range(12)), tuple(range(12))), True)


if __name__ == "__main__":
    unittest.main()
