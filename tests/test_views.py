"""Point 12: the cells that can have been taken on the way."""

import itertools
import math
import random
import unittest

from nearslot.counting import count_orders
from nearslot.errors import Impossible, NoWay, TooMany
from nearslot.verdicts import verdict
from nearslot.views import count_through, count_views, first_through, is_view, views

from listing import IMPOSSIBLE, Ways, changed_tables, needed, nested, orders, small_tables, taken, views_of

TABLE = (0, 2, 2, 2, None)

TWELVES = changed_tables(12, 6, 31) + [("?",) * 12, (0,) * 12, (5,) * 12, (0,) * 6 + (11,) * 6, ("?", None) * 6]


# Nothing of this is a view, whatever the table is.
NEVER = [
    0, 1, -1, 10 ** 30, True, False, None, "", "0", "01", "?", [], [0], [0, 1], [1, 2], [[]], [()], (True,), (False,),
    (False, True), (0, True), (None,), (None, None), ("?",), ("0",), (0, "1"), (0, None), ((),), ((0,),), ((0, 1),),
    ((0,), (1,)), ([0],), ([0], [1]), (0, [1]), [(0, 1)], (-1,), (-1, 0), (-2, -1), (0, 99), (10 ** 30,), (0, 0),
    (1, 0), (0, 1, 0), (0, 1, 1), *[nested(depth, make) for depth in range(2, 17) for make in (list, tuple)],
]


def subsets(cells):
    return [some for many in range(len(cells) + 1) for some in itertools.combinations(cells, many)]


def passes(order, seen):
    """Whether the order passes through all of `seen`, one after the other."""
    many = 0
    for cells in seen:
        fitting = [at for at in range(many, len(order) + 1) if set(order[:at]) == set(cells)]
        if not fitting:
            return False
        many = fitting[0]
    return True


class Small(unittest.TestCase):
    """Against a listing of all orders."""

    def test_is_view(self):
        for table in small_tables(4) + changed_tables(6, 15, 32):
            expected = views_of(table)
            for thing in subsets(range(len(table))):
                with self.subTest(table=table, thing=thing):
                    self.assertIs(is_view(table, thing), thing in expected)
                    self.assertIs(is_view(table, list(thing)), False)

    def test_is_view_of_any_tuple_of_integers(self):
        for table in small_tables(2) + [TABLE, (0, 0, 0), ("?", None, "?")]:
            expected = views_of(table)
            for many in range(4):
                for thing in itertools.product(range(-1, len(table) + 1), repeat=many):
                    with self.subTest(table=table, thing=thing):
                        self.assertIs(is_view(table, thing), thing in expected)

    def test_views_and_count_views(self):
        for table in small_tables(4) + changed_tables(5, 60, 33) + changed_tables(7, 15, 34):
            expected = views_of(table)
            objects = len(taken(table))
            with self.subTest(table=table):
                counts = [len([view for view in expected if len(view) == many]) for many in range(objects + 1)]
                self.assertEqual(repr(count_views(table)), repr(counts))
                for many in range(-1, objects + 2):
                    self.assertEqual(repr(views(table, many)), repr([view for view in expected if len(view) == many]))

    def test_through(self):
        for table in small_tables(3):
            sets = subsets(taken(table))
            for many in range(3):
                for seen in itertools.product(sets, repeat=many):
                    self.check_through(table, list(seen))

    def test_through_longer_lists(self):
        chance = random.Random(35)
        for table in changed_tables(4, 30, 36) + changed_tables(6, 10, 37) + [TABLE, ("?", "?", "?", "?")]:
            sets = subsets(taken(table))
            for trial in range(40):
                seen = [chance.choice(sets) for at in range(chance.randrange(5))]
                self.check_through(table, seen)
                self.check_through(table, sorted(seen, key=len))
                order = taken(table)
                chance.shuffle(order)
                lengths = sorted(chance.randrange(len(order) + 1) for at in range(chance.randrange(4)))
                self.check_through(table, [tuple(sorted(order[:length])) for length in lengths])

    def check_through(self, table, seen):
        agreeing = orders(table)
        passing = [order for order in agreeing if passes(order, seen)]
        with self.subTest(table=table, seen=seen):
            self.assertEqual(count_through(table, seen), len(passing))
            if not agreeing:
                with self.assertRaises(Impossible):
                    first_through(table, seen)
            elif passing:
                self.assertEqual(repr(first_through(table, seen)), repr(passing[0]))
            else:
                with self.assertRaises(NoWay) as caught:
                    first_through(table, seen)
                places = [at for at in range(len(seen))
                          if not any(passes(order, seen[:at + 1]) for order in agreeing)]
                self.assertEqual(caught.exception.place, places[0])


class AnyValue(unittest.TestCase):
    def test_never(self):
        for table in ((0,), (0, 0), (1, 0), ("?", "?"), (None, None), (0, None), (None, 1), TABLE, ("?",) * 12):
            for thing in NEVER:
                with self.subTest(table=table, thing=thing):
                    self.assertIs(is_view(table, thing), False)

    def test_the_empty_tuple(self):
        for table in ((0,), (None,), TABLE, ("?",) * 12):
            self.assertIs(is_view(table, ()), True)
        for table in IMPOSSIBLE:
            self.assertIs(is_view(table, ()), False)

    def test_far_beyond_the_bounds(self):
        self.assertIs(is_view(TABLE, tuple(range(1000))), False)
        self.assertIs(is_view(TABLE, (2,) * 1000), False)


class Lengths(unittest.TestCase):
    def test_any_other_length(self):
        for table in ((None,), (0,), TABLE, ("?",) * 12, (None,) * 12):
            for many in (-1, -2, -12, -10 ** 30, len(taken(table)) + 1, len(table) + 1, 13, 14, 99, 10 ** 30):
                with self.subTest(table=table, many=many):
                    self.assertEqual(views(table, many), [])

    def test_none_and_all(self):
        for table in ((None,), (0,), TABLE, ("?",) * 12, (None,) * 12, (5,) * 12):
            self.assertEqual(views(table, 0), [()])
            self.assertEqual(views(table, len(taken(table))), [tuple(taken(table))])

    def test_no_objects(self):
        self.assertEqual(count_views((None,)), [1])
        self.assertEqual(count_views((None,) * 12), [1])
        self.assertEqual(count_through((None, None), []), 1)
        self.assertEqual(count_through((None, None), [(), ()]), 1)
        self.assertEqual(first_through((None, None), [()]), ())

    def test_too_many(self):
        for many in range(13):
            count = math.comb(12, many)
            with self.subTest(many=many):
                if count > 300:
                    with self.assertRaises(TooMany) as caught:
                        views(("?",) * 12, many)
                    self.assertEqual(caught.exception.many, count)
                else:
                    self.assertEqual(views(("?",) * 12, many), list(itertools.combinations(range(12), many)))

    def test_exactly_as_many_as_are_listed(self):
        table = ("?", 4, "?", "?", "?", "?", "?", "?", 10, "?", "?", 12, "?", 11)
        expected = self.closed_sets(table, 7)
        self.assertEqual(len(expected), 300)
        self.assertEqual(views(table, 7), expected)

    def test_one_more_than_are_listed(self):
        table = ("?", "?", "?", "?", "?", "?", "?", "?", 11, "?", "?", "?", 13, "?")
        self.assertEqual(len(self.closed_sets(table, 10)), 301)
        with self.assertRaises(TooMany) as caught:
            views(table, 10)
        self.assertEqual(caught.exception.many, 301)

    def closed_sets(self, table, many):
        """The sets of cells of a possible table that hold all that their objects need."""
        return [cells for cells in itertools.combinations(taken(table), many)
                if all(set(needed(table, cell)) <= set(cells) for cell in cells)]


class Impossibles(unittest.TestCase):
    def test_nothing_is_returned(self):
        for table in IMPOSSIBLE + [table for table in small_tables(3) if not orders(table)]:
            cells = taken(table)
            with self.subTest(table=table):
                self.assertEqual(count_views(table), [0] * (len(cells) + 1))
                for many in range(-1, len(cells) + 2):
                    self.assertEqual(views(table, many), [])
                for seen in ([], [()], [tuple(cells)], [tuple(cells), ()]):
                    self.assertEqual(count_through(table, seen), 0)
                    with self.assertRaises(Impossible):
                        first_through(table, seen)
                for thing in ((), tuple(cells), tuple(cells[:1])):
                    self.assertIs(is_view(table, thing), False)

    def test_no_way_comes_second(self):
        with self.assertRaises(Impossible):
            first_through((1, 0), [(0,), (1,)])


class Through(unittest.TestCase):
    def test_nothing_seen(self):
        for table in small_tables(3) + changed_tables(7, 10, 38):
            if orders(table):
                self.assertEqual(count_through(table, []), count_orders(table))
                self.assertEqual(("order", first_through(table, [])), verdict(table))

    def test_the_same_again(self):
        self.assertEqual(count_through(TABLE, [(1, 2), (1, 2), (1, 2)]), 2)
        self.assertEqual(first_through(TABLE, [(), (), (1, 2), (1, 2)]), (2, 1, 0, 3))

    def test_never_fewer(self):
        self.assertEqual(count_through(TABLE, [(2,), (1, 2)]), 2)
        self.assertEqual(count_through(TABLE, [(1, 2), (2,)]), 0)
        self.check_no_way([(1, 2), (2,)], 1)
        self.check_no_way([(2,), ()], 1)

    def test_least_index(self):
        self.check_no_way([(1,)], 0)
        self.check_no_way([(0,), (2,)], 1)
        self.check_no_way([(0,), (0, 2), (1, 2), (0, 1)], 2)
        self.check_no_way([(), (2,), (2, 3), (0, 1, 2, 3)], 2)

    def check_no_way(self, seen, place):
        with self.assertRaises(NoWay) as caught:
            first_through(TABLE, seen)
        self.assertEqual(caught.exception.place, place)


class Twelve(unittest.TestCase):
    """Orders that are counted without being listed."""

    def test_all_unknown(self):
        table = ("?",) * 12
        self.assertEqual(count_views(table), [math.comb(12, many) for many in range(13)])
        self.assertEqual(count_through(table, []), math.factorial(12))
        self.assertEqual(count_through(table, [(0, 5, 11), (0, 1, 2, 5, 11)]), 6 * 2 * math.factorial(7))
        self.assertEqual(first_through(table, [(7, 9), (3, 7, 9, 11)]), (7, 9, 3, 11, 0, 1, 2, 4, 5, 6, 8, 10))

    def test_against_counts_over_sets(self):
        for table in TWELVES:
            ways = Ways(table)
            reached = [came for came in ways.sets if ways.until[came] and ways.after[came]]
            with self.subTest(table=table):
                counts = [len([came for came in reached if len(came) == many]) for many in range(len(ways.all) + 1)]
                self.assertEqual(count_views(table), counts)
                for many, count in enumerate(counts):
                    expected = sorted(tuple(sorted(came)) for came in reached if len(came) == many)
                    if count <= 300:
                        self.assertEqual(views(table, many), expected)
                chance = random.Random(39)
                for came in chance.sample(ways.sets, min(150, len(ways.sets))):
                    seen = tuple(sorted(came))
                    self.assertIs(is_view(table, seen), came in reached)
                    self.assertEqual(count_through(table, [seen]), ways.until[came] * ways.after[came])

    def test_step_by_step(self):
        for table in TWELVES:
            word, *rest = verdict(table)
            if word == "order":
                order = rest[0]
                seen = [tuple(sorted(order[:many])) for many in range(len(order) + 1)]
                with self.subTest(table=table):
                    self.assertEqual(count_through(table, seen), 1)
                    self.assertEqual(first_through(table, seen), order)
                    self.assertEqual(first_through(table, seen[::3]), order)

    def test_somewhat_beyond_the_bound(self):
        self.assertEqual(count_views(("?",) * 18), [math.comb(18, many) for many in range(19)])
        self.assertEqual(len(views(("?",) * 18, 17)), 18)


if __name__ == "__main__":
    unittest.main()
