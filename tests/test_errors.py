"""Points 2 and 17: the error classes, their bases and their fields."""

import unittest

from nearslot import errors

# name: (built-in base class, fields)
CLASSES = {
    "Misfit": (ValueError, ["place"]),
    "Impossible": (ValueError, []),
    "BadText": (ValueError, ["entry"]),
    "BadLine": (ValueError, ["line"]),
    "NoObject": (LookupError, ["cell"]),
    "NoOrder": (LookupError, ["number"]),
    "NoState": (LookupError, ["many"]),
    "NoWay": (RuntimeError, ["place"]),
    "Needed": (RuntimeError, ["cell"]),
    "TooMany": (OverflowError, ["many"]),
    "Full": (OverflowError, ["many"]),
}

# 10 ** 5000 has more digits than Python writes out by itself.
VALUES = [0, -1, 7, 10 ** 5000, True, None, "", "some words", [1, [2]], (1, 2), {"a": 1}, object()]


class Bases(unittest.TestCase):
    def test_direct_base(self):
        for name, (base, fields) in CLASSES.items():
            with self.subTest(name=name):
                self.assertEqual(getattr(errors, name).__bases__, (base,))

    def test_no_other_error_of_the_package_above(self):
        for name in CLASSES:
            above = getattr(errors, name).__mro__[1:]
            with self.subTest(name=name):
                self.assertEqual([one for one in above if one.__module__ != "builtins"], [])

    def test_one_is_not_caught_as_another(self):
        for name in CLASSES:
            for other in CLASSES:
                with self.subTest(name=name, other=other):
                    related = issubclass(getattr(errors, name), getattr(errors, other))
                    self.assertEqual(related, name == other)


class Fields(unittest.TestCase):
    def test_by_position(self):
        for name, (base, fields) in CLASSES.items():
            for value in VALUES:
                error = getattr(errors, name)(*[value for field in fields])
                for field in fields:
                    with self.subTest(name=name, kind=type(value)):
                        self.assertIs(getattr(error, field), value)

    def test_by_name(self):
        for name, (base, fields) in CLASSES.items():
            for value in VALUES:
                error = getattr(errors, name)(**{field: value for field in fields})
                for field in fields:
                    with self.subTest(name=name, kind=type(value)):
                        self.assertIs(getattr(error, field), value)

    def test_two_errors_have_their_own_fields(self):
        one, other = errors.Full(1), errors.Full(2)
        self.assertEqual((one.many, other.many), (1, 2))

    def test_no_more_and_no_fewer_fields(self):
        for name, (base, fields) in CLASSES.items():
            with self.subTest(name=name):
                with self.assertRaises(TypeError):
                    getattr(errors, name)(*[0 for field in fields], 0)
                if fields:
                    with self.assertRaises(TypeError):
                        getattr(errors, name)()

    def test_can_be_shown_with_any_value(self):
        for name, (base, fields) in CLASSES.items():
            for value in VALUES:
                with self.subTest(name=name, kind=type(value)):
                    self.assertIsInstance(str(getattr(errors, name)(*[value for field in fields])), str)


class Raising(unittest.TestCase):
    def test_caught_by_own_class_and_by_base(self):
        for name, (base, fields) in CLASSES.items():
            kind = getattr(errors, name)
            for caught_by in (kind, base):
                with self.subTest(name=name, caught_by=caught_by):
                    with self.assertRaises(caught_by) as caught:
                        raise kind(*[5 for field in fields])
                    self.assertIs(type(caught.exception), kind)
                    self.assertEqual([getattr(caught.exception, field) for field in fields], [5 for field in fields])


if __name__ == "__main__":
    unittest.main()
