"""Point 16: the desk."""

import math
import random
import unittest

from nearslot import desk
from nearslot.desk import answers
from nearslot.errors import BadLine

from model import Model, Refused


def written(numbers):
    return " ".join(str(number) for number in numbers) or "-"


def entries(table):
    return " ".join("-" if entry is None else str(entry) for entry in table)


def times_of(model, cell):
    model.object_in(cell)
    times = [order.index(cell) for order in model.orders()]
    return [times.count(time) for time in range(len(model.order()))]


def before_of(model, one, other):
    model.object_in(one)
    model.object_in(other)
    return len([order for order in model.orders() if order.index(one) < order.index(other)])


def told(model, word, numbers):
    """What the desk tells for one line, by the model."""
    single = {"put": "put", "take": "take_out", "forget": "forget"}
    if word in single:
        return written([model.call(single[word], *numbers)])
    if word == "undo":
        return "yes" if model.call("undo") else "no"
    if word == "show":
        return entries(model.table())
    if word == "before":
        return written([before_of(model, *numbers)])
    if word == "times":
        return written(times_of(model, *numbers))
    return written({"order": model.order, "count": lambda: [len(model.orders())],
                    "histories": lambda: [model.histories()], "leave": model.can_leave}[word]())


def expected_answers(size, requests):
    model = Model(size)
    found = []
    for word, *numbers in requests:
        try:
            found.append(told(model, word, numbers))
        except Refused as refused:
            found.append(f"error {refused.name}")
    return found


def random_request(chance, size):
    word = chance.choice(["put", "put", "put", "take", "forget", "undo", "show", "order", "count", "histories",
                          "before", "times", "leave"])
    if word == "put":
        return [word, chance.randrange(size)]
    many = {"take": 1, "forget": 1, "before": 2, "times": 1}.get(word, 0)
    return [word, *[chance.choice([*range(size), *range(size), size, 99, 999]) for at in range(many)]]


def text_of(size, requests):
    return "\n".join([f"store {size}"] + [" ".join(str(part) for part in request) for request in requests])


class Sequences(unittest.TestCase):
    def test_random_texts(self):
        for seed in range(150):
            chance = random.Random(seed)
            size = 1 + seed % 5
            requests = [random_request(chance, size) for at in range(chance.randrange(40))]
            with self.subTest(size=size, requests=requests):
                self.assertEqual(repr(answers(text_of(size, requests))), repr(expected_answers(size, requests)))


class Answers(unittest.TestCase):
    def check(self, size, *pairs):
        """Pairs of a line and its answer."""
        text = "\n".join([f"store {size}", *[line for line, expected in pairs]])
        self.assertEqual(answers(text), [expected for line, expected in pairs])

    def test_first_line_alone(self):
        for size in range(1, 13):
            self.assertEqual(answers(f"store {size}"), [])

    def test_an_empty_row(self):
        for size in (1, 3, 12):
            self.check(size, ("show", " ".join("-" * size)), ("order", "-"), ("count", "1"), ("histories", "1"),
                       ("leave", "-"), ("undo", "no"), ("times 0", "error NoObject"),
                       ("before 0 0", "error NoObject"), ("take 0", "error NoObject"), ("forget 0", "error NoObject"))

    def test_commands(self):
        self.check(3, ("put 1", "1"), ("put 1", "0"), ("put 1", "2"), ("put 1", "error Full"), ("order", "1 0 2"),
                   ("take 1", "error Needed"), ("take 2", "2"), ("take 2", "error NoObject"), ("forget 0", "2"),
                   ("show", "? 1 -"), ("undo", "yes"), ("show", "1 1 -"), ("undo", "yes"), ("show", "1 1 1"),
                   ("undo", "yes"), ("undo", "yes"), ("undo", "yes"), ("undo", "no"), ("show", "- - -"))

    def test_queries(self):
        self.check(5, ("put 2", "2"), ("put 2", "1"), ("put 2", "3"), ("put 0", "0"), ("show", "0 2 2 2 -"),
                   ("order", "2 1 3 0"), ("count", "4"), ("histories", "4"), ("before 0 1", "2"), ("before 1 0", "2"),
                   ("before 1 1", "0"), ("before 2 3", "4"), ("times 1", "0 2 2 0"), ("leave", "0 3"),
                   ("forget 3", "12"), ("leave", "0 1 3"), ("histories", "22"))

    def test_cells_that_do_not_exist(self):
        for cell in ("4", "5", "9", "10", "12", "99", "100", "999"):
            self.check(4, ("put 0", "0"), (f"take {cell}", "error NoObject"), (f"forget {cell}", "error NoObject"),
                       (f"times {cell}", "error NoObject"), (f"before {cell} 0", "error NoObject"),
                       (f"before 0 {cell}", "error NoObject"), (f"before {cell} {cell}", "error NoObject"))

    def test_errors_are_no_operations(self):
        self.check(1, ("put 0", "0"), ("put 0", "error Full"), ("take 9", "error NoObject"), ("undo", "yes"),
                   ("undo", "no"))

    def test_new_lists_and_new_stores(self):
        text = "store 2\nput 0\nshow"
        one, other = answers(text), answers(text=text)
        self.assertIsNot(one, other)
        one.append("more")
        self.assertEqual(other, ["0", "0 -"])
        self.assertEqual(answers(text), ["0", "0 -"])

    def test_twelve_cells_and_sixty_lines(self):
        lines = ["store 12"] + ["put 5"] * 12 + [f"forget {cell}" for cell in range(12)]
        lines += ["count", "histories", "before 0 11", "times 6", "order", "show", "leave"] * 5
        found = answers("\n".join(lines))
        self.assertEqual(len(lines), 60)
        self.assertEqual(found[:12], ["5", "4", "6", "3", "7", "2", "8", "1", "9", "0", "10", "11"])
        last = [str(math.factorial(12)), str(12 ** 12), str(math.factorial(12) // 2),
                " ".join([str(math.factorial(11))] * 12), "5 4 6 3 7 2 8 1 9 0 10 11", " ".join("?" * 12),
                " ".join(str(cell) for cell in range(12))]
        self.assertEqual(found[-35:], last * 5)

    def test_sixty_operations(self):
        lines = ["store 12"] + ["put 0", "take 0"] * 29 + ["put 11"] * 2 + ["undo"] * 61
        found = answers("\n".join(lines))
        self.assertEqual(found, ["0", "0"] * 29 + ["11", "10"] + ["yes"] * 60 + ["no"])


GOOD = ["put 0", "put 3", "take 0", "take 999", "forget 12", "undo", "show", "order", "count", "histories", "before 0 1",
        "before 100 999", "times 4", "leave"]

# Lines that are not so written, for a row of four cells.
BAD = [
    "", " ", "put", "put ", "put  0", " put 0", "put 0 ", "put 0 1", "put 4", "put 12", "put 999", "put 1000",
    "put 00", "put 01", "put -1", "put +1", "put ?", "put -", "put x", "put 0.0", "put 1_0", "PUT 0", "Put 0", "puts 0",
    "put\t0", "put 0\r", "put \u0661", "put \u00b2", "put \uff11", "take", "take ", "take x", "take 00", "take 012",
    "take 1000", "take -1", "take 0 0", "take_out 0", "put_all 0", "forget", "forget ?", "forget 0001", "forget 0 1",
    "undo ", " undo", "undo 0", "undo 1", "undone", "show 0", "show ", "table", "order 0", "orders", "count 0", "count ",
    "histories 1", "history", "before", "before 0", "before 0 ", "before 0  1", "before 0 1 2", "before 0 01",
    "before 0 1000", "before x 0", "times", "times ", "times 0 1", "times 03", "times -", "leave 0", "leave ", "left",
    "can_leave", "store 4", "store", "as_of 0", "twin", "journal", "operations", "-", "?", "0", "# put 0", "put 0;",
    "take " + "9" * 190, "undo\r",
]

BAD_FIRST = [
    "", " ", "store", "store ", " store 4", "store  4", "store 4 ", "store 4 4", "store 0", "store 13", "store 99",
    "store 100", "store 999", "store 1000", "store 04", "store 004", "store 0012", "store -1", "store +4", "store x",
    "store ?", "store 4x", "store \u0664", "store \u00b2", "Store 4", "STORE 4", "stores 4", "shop 4", "put 0", "4",
    "store\t4", "store 4\r", "store 1_0", "store " + "1" * 190, "store 1.0",
]


class BadLines(unittest.TestCase):
    def check(self, lines, line):
        with self.subTest(lines=lines):
            with self.assertRaises(BadLine) as caught:
                answers("\n".join(lines))
            self.assertEqual(caught.exception.line, line)

    def test_good_lines(self):
        self.assertEqual(len(answers("\n".join(["store 4", *GOOD]))), len(GOOD))

    def test_nothing(self):
        self.check([""], 0)

    def test_first_line(self):
        for line in BAD_FIRST:
            self.check([line], 0)
            self.check([line, "put 0", "show"], 0)
            self.check([line, "wrong"], 0)

    def test_every_bad_line_at_every_place(self):
        for bad in BAD:
            for place in range(1, 5):
                lines = ["store 4", "put 0", "show", "undo"]
                lines[place:place] = [bad]
                self.check(lines, place)

    def test_the_first_of_several(self):
        for bad in BAD:
            self.check(["store 4", "put 0", bad, "show", "wrong", ""], 2)

    def test_a_last_line_feed(self):
        self.check(["store 4", ""], 1)
        self.check(["store 4", "put 0", ""], 2)
        self.check(["store 4", "put 0", "", ""], 2)
        self.check(["store 4", "put 0", "", "show"], 2)
        self.check(["", "store 4"], 0)

    def test_put_must_be_a_cell_of_the_row(self):
        for size in range(1, 13):
            for wish in range(14):
                if wish < size:
                    self.assertEqual(answers(f"store {size}\nput {wish}"), [str(wish)])
                else:
                    self.check([f"store {size}", "show", f"put {wish}"], 2)

    def test_before_anything_is_done(self):
        made = []
        kept = desk.Store
        desk.Store = lambda size: made.append(size) or kept(size)
        try:
            self.assertEqual(answers("store 4\nput 0"), ["0"])
            self.assertEqual(made, [4])
            self.check(["store 4", "put 0", "put 0", "wrong"], 3)
            self.assertEqual(made, [4])
        finally:
            desk.Store = kept


if __name__ == "__main__":
    unittest.main()
