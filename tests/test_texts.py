"""Point 16: the texts of tables."""

import itertools
import random
import unittest

from nearslot.cells import is_table
from nearslot.errors import BadText
from nearslot.texts import table_in, table_text

from listing import changed_tables, small_tables

# Entries that are never so written, however long the row is. The last ones count as digits elsewhere.
WRONG = [
    "", "+1", "-1", "--", "-0", "??", "?-", "-?", "00", "01", "007", "1.0", "1e0", "0x1", "1_0", "a", "None", "'?'",
    "x1", "1x", "\t", "0\t", "\n", "0\n", "\n0", "?\n", "-\n", "\r", "0\r", "\x00", "\u00a0", "0\u00a0", "\u2003",
    "\u0660", "\u0661", "\uff10", "\uff11", "\u00b2", "\u2460", "1\u0661", "\u096a", "\U0001d7d8",
]


def first_wrong(text):
    """The least index of a wrong entry, found by comparing with all entries that are right in such a row, or None."""
    entries = text.split(" ")
    right = ["?", "-", *[str(cell) for cell in range(len(entries))]]
    wrong = [at for at, entry in enumerate(entries) if entry not in right]
    return wrong[0] if wrong else None


class TableText(unittest.TestCase):
    def test_entries(self):
        self.assertEqual(table_text((None,)), "-")
        self.assertEqual(table_text(("?",)), "?")
        self.assertEqual(table_text((0,)), "0")
        self.assertEqual(table_text((11, 10) + (None,) * 10), "11 10 - - - - - - - - - -")

    def test_impossible_tables(self):
        self.assertEqual(table_text((1, 0)), "1 0")

    def test_lists(self):
        self.assertEqual(table_text([0, 2, "?", None]), "0 2 ? -")


class Inverse(unittest.TestCase):
    def test_every_small_table(self):
        for table in small_tables(4) + changed_tables(12, 50, 61):
            with self.subTest(table=table):
                text = table_text(table)
                self.assertIs(type(text), str)
                self.assertEqual(repr(table_in(text)), repr(table))

    def test_every_short_text(self):
        for many in range(6):
            for signs in itertools.product(" -?012a", repeat=many):
                self.check("".join(signs))

    def test_random_texts(self):
        chance = random.Random(62)
        for trial in range(3000):
            self.check(" ".join(chance.choice(["-", "?", "0", "1", "5", "9", "10", "11", "12", "13", "01", "", "x"])
                                for at in range(chance.randrange(1, 15))))

    def check(self, text):
        place = first_wrong(text)
        with self.subTest(text=text):
            if place is None:
                table = table_in(text)
                self.assertIs(is_table(table), True)
                self.assertEqual(table_text(table), text)
            else:
                with self.assertRaises(BadText) as caught:
                    table_in(text)
                self.assertEqual(caught.exception.entry, place)

    def test_by_name(self):
        self.assertEqual(table_in(text="- ?"), (None, "?"))
        self.assertEqual(table_text(table=[None, "?"]), "- ?")


class BadTexts(unittest.TestCase):
    def check(self, text, entry):
        with self.subTest(text=text[:50]):
            with self.assertRaises(BadText) as caught:
                table_in(text)
            self.assertEqual(caught.exception.entry, entry)

    def test_nothing(self):
        self.check("", 0)

    def test_spaces(self):
        self.check(" ", 0)
        self.check("  ", 0)
        self.check(" 0", 0)
        self.check("0 ", 1)
        self.check("0  1", 1)
        self.check("0 1  ", 2)
        self.check("- - - ", 3)

    def test_wrong_entries_at_every_place(self):
        for wrong in WRONG:
            for place in range(4):
                entries = ["0", "?", "-", "3"]
                entries[place] = wrong
                self.check(" ".join(entries), place)
            self.check(wrong, 0)

    def test_the_first_of_several(self):
        self.check("0 9 x", 1)
        self.check("0 x 9", 1)
        self.check("3 x ?", 0)
        self.check("2 1 x", 2)

    def test_integers_that_are_no_cells(self):
        self.check("1", 0)
        self.check("0 2", 1)
        for size in (2, 9, 10, 11, 12, 99, 100, 101):
            for place in (0, 1, size - 1):
                entries = ["-"] * size
                entries[place] = str(size - 1)
                expected = [None] * size
                expected[place] = size - 1
                self.assertEqual(table_in(" ".join(entries)), tuple(expected))
                entries[place] = str(size)
                self.check(" ".join(entries), place)

    def test_integers_of_any_length(self):
        for digits in (3, 20, 4299, 4300, 4301, 5000, 100000):
            self.check("0 " + "9" * digits, 1)
            self.check("0 ? " + "1" + "0" * digits + " x", 2)
            self.check("0" * digits, 0)


class AnyLength(unittest.TestCase):
    def test_far_beyond_the_bounds(self):
        self.assertEqual(table_in(" ".join(["-"] * 5000)), (None,) * 5000)
        self.assertEqual(table_in(" ".join(["4999"] * 5000)), (4999,) * 5000)
        self.assertEqual(table_in(" ".join([str(cell) for cell in range(5000)])), tuple(range(5000)))
        with self.assertRaises(BadText) as caught:
            table_in(" ".join(["?"] * 4999 + ["5000"]))
        self.assertEqual(caught.exception.entry, 4999)


if __name__ == "__main__":
    unittest.main()
