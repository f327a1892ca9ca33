"""Points 6 and 8: the first order that agrees, or the reason why there is none."""

import itertools
import unittest

from nearslot.verdicts import shows_both, shows_gap, shows_order, verdict

from listing import changed_tables, needed, nested, orders, reason, small_tables, taken


# Nothing of this is an order or a pair of cells, whatever the table is.
NEVER = [
    0, 1, -1, 10 ** 30, True, False, None, "", "0", "01", "?", "order", "gap", [], [0], [1, 0], [0, 1], [[]],
    (True,), (False,), (True, False), (False, True), (1, False), (True, 0), (None,), (None, None), ("?",), ("0",),
    ("0", "1"), (0, "1"), (1, None), ((),), ((0, 1),), ((0,), (1,)), ([0], [1]), (0, [1]), ([0, 1],), [(0, 1)],
    ("order", (0, 1)), ("gap", 1, 0), ("both", 0, 1), (-1,), (-1, 0), (0, -1), (-2, -1), (10 ** 30, 0), (0, 99),
    *[nested(depth, make) for depth in range(2, 17) for make in (list, tuple)],
]


class Verdict(unittest.TestCase):
    def check(self, table, expected):
        with self.subTest(table=table):
            self.assertEqual(repr(verdict(table)), repr(expected))

    def test_every_small_table(self):
        for table in small_tables(5):
            agreeing = orders(table)
            self.check(table, ("order", agreeing[0]) if agreeing else reason(table))

    def test_some_longer_tables(self):
        for table in changed_tables(7, 150, 1):
            agreeing = orders(table)
            self.check(table, ("order", agreeing[0]) if agreeing else reason(table))

    def test_possible_exactly_without_gap_and_pair(self):
        for table in small_tables(4):
            with self.subTest(table=table):
                self.assertEqual(verdict(table)[0] == "order", reason(table) is None)

    def test_no_objects(self):
        for size in (1, 2, 12):
            self.check((None,) * size, ("order", ()))

    def test_unknown_wishes_need_nothing(self):
        self.check(("?", None, "?"), ("order", (0, 2)))
        self.check(("?",) * 12, ("order", tuple(range(12))))

    def test_one_cell(self):
        self.check((0,), ("order", (0,)))
        self.check(("?",), ("order", (0,)))

    def test_a_gap_comes_before_a_pair(self):
        self.check((1, 0, None, 4, None), ("gap", 3, 4))
        self.check((1, 0, 1, 4, None), ("gap", 3, 4))

    def test_lowest_cell_and_lowest_empty_cell(self):
        self.check((None, 4, None, None, None), ("gap", 1, 2))
        self.check((None, None, None, 0, 0), ("gap", 3, 0))
        self.check((3, None, None, None, 0), ("gap", 0, 1))
        self.check(("?", None, None, 0), ("gap", 3, 1))

    def test_first_pair(self):
        self.check((0, 1, 3, 2, 5, 4), ("both", 2, 3))
        self.check((2, 2, 0), ("both", 0, 2))
        self.check((2, 0, 0), ("both", 0, 1))

    def test_twelve_objects(self):
        self.check((0,) * 12, ("order", tuple(range(12))))
        self.check((11,) * 12, ("order", tuple(range(11, -1, -1))))
        self.check((5,) * 12, ("order", (5, 4, 6, 3, 7, 2, 8, 1, 9, 0, 10, 11)))
        self.check(("?",) * 10 + (11, 10), ("both", 10, 11))


class ShowsOrder(unittest.TestCase):
    def test_every_tuple_for_every_small_table(self):
        for table in small_tables(3):
            agreeing = orders(table)
            for many in range(5):
                for thing in itertools.product(range(-1, 4), repeat=many):
                    with self.subTest(table=table, thing=thing):
                        self.assertIs(shows_order(table, thing), thing in agreeing)

    def test_every_order_for_every_table_of_four(self):
        for table in small_tables(4):
            agreeing = orders(table)
            for thing in itertools.permutations(taken(table)):
                with self.subTest(table=table, thing=thing):
                    self.assertIs(shows_order(table, thing), thing in agreeing)
                    self.assertIs(shows_order(table, list(thing)), False)

    def test_cells_missing_too_many_or_twice(self):
        table = (0, 2, 2, 2, None)
        self.assertIs(shows_order(table, (0, 2, 1, 3)), True)
        for thing in ((), (0, 2, 1), (2, 1, 3), (0, 2, 1, 3, 4), (4, 0, 2, 1, 3), (0, 0, 2, 1, 3), (2, 2, 1, 3),
                      (0, 2, 1, 3, 3), (0, 2, 1, -2), (0, 2, 1, 3, 5), (0, 2, True, 3), (False, 2, 1, 3)):
            with self.subTest(thing=thing):
                self.assertIs(shows_order(table, thing), False)

    def test_no_order_agrees_with_a_gap(self):
        self.assertIs(shows_order((None, 0, None), (1,)), False)
        self.assertIs(shows_order((None, 0, None), (0, 1)), False)

    def test_no_objects(self):
        self.assertIs(shows_order((None, None), ()), True)
        self.assertIs(shows_order((None, None), []), False)
        self.assertIs(shows_order((0, None), ()), False)

    def test_other_values(self):
        for table in ((0,), (0, 0), (1, 0), ("?", "?"), (None, None), (0, None), (None, 1), ("?",) * 12):
            for thing in NEVER:
                with self.subTest(table=table, thing=thing):
                    self.assertIs(shows_order(table, thing), False)


class ShowsPairs(unittest.TestCase):
    def test_every_pair_for_every_small_table(self):
        for table in small_tables(4):
            cells = range(len(table))
            for one, other in itertools.product(range(-2, len(table) + 2), repeat=2):
                inside = one in cells and other in cells
                gap = inside and table[other] is None and other in needed(table, one)
                both = inside and one in needed(table, other) and other in needed(table, one)
                with self.subTest(table=table, one=one, other=other):
                    self.assertIs(shows_gap(table, (one, other)), gap)
                    self.assertIs(shows_both(table, (one, other)), both)

    def test_reasons_of_verdicts(self):
        for table in small_tables(4):
            word, *rest = verdict(table)
            with self.subTest(table=table):
                if word == "order":
                    self.assertIs(shows_order(table, rest[0]), True)
                elif word == "gap":
                    self.assertIs(shows_gap(table, tuple(rest)), True)
                else:
                    self.assertIs(shows_both(table, tuple(rest)), True)
                    self.assertIs(shows_both(table, tuple(rest[::-1])), True)

    def test_not_only_the_first_ones(self):
        self.assertIs(shows_gap((None, None, 0, 0), (3, 1)), True)
        self.assertIs(shows_gap((None, None, 0, 0), (3, 2)), False)
        self.assertIs(shows_both((1, 0, 3, 2), (2, 3)), True)
        self.assertIs(shows_both((1, 0, 3, 2), (1, 2)), False)
        self.assertIs(shows_both((1, 0, None, 4, None), (0, 1)), True)

    def test_a_gap_is_not_taken_in_any_order(self):
        self.assertIs(shows_gap((None, 0, None), (0, 1)), False)

    def test_no_object_needs_its_own_cell(self):
        self.assertIs(shows_both((1, 0), (0, 0)), False)
        self.assertIs(shows_gap((None, 0), (0, 0)), False)

    def test_pairs_only(self):
        for thing in ([1, 0], (1,), (1, 0, 0), (1, 0, None), (), ((1, 0),), (True, 0), (1, False), (True, False)):
            with self.subTest(thing=thing):
                self.assertIs(shows_gap((None, 0, None), thing), False)
                self.assertIs(shows_both((1, 0), thing), False)

    def test_other_values(self):
        for table in ((0,), (None, 0), (0, 0), (1, 0), (1, None), ("?", "?"), (None, None), (None,) + (0,) * 11):
            for thing in NEVER:
                with self.subTest(table=table, thing=thing):
                    self.assertIs(shows_gap(table, thing), False)
                    self.assertIs(shows_both(table, thing), False)


if __name__ == "__main__":
    unittest.main()
