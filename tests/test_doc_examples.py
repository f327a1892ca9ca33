"""The examples of the document, as they stand there."""

import doctest
import unittest

CELLS = '''
>>> from nearslot.cells import is_table
>>> [is_table((0, 2, "?", None)), is_table((0, 4, None)), is_table(())]
[True, False, False]

>>> from nearslot.cells import needs
>>> [needs(5, 3, 2), needs(5, 1, 2), needs(5, 2, 2), needs(5, 4, 1)]
[(1, 2), (2,), (), (0, 1, 2, 3)]

>>> from nearslot.cells import nearest
>>> [nearest((0, 2, 2, None, None), 2), nearest((None, 1, None), 1)]
[3, 0]

>>> from nearslot.cells import cells_of
>>> cells_of(5, [2, 2, 2, 0])
(2, 1, 3, 0)

>>> from nearslot.cells import filled
>>> filled(5, [2, 2, 2, 0])
(0, 2, 2, 2, None)
'''


class Examples(unittest.TestCase):
    def check(self, name, text, many):
        examples = doctest.DocTestParser().get_doctest(text, {}, name, None, 0)
        told = []
        results = doctest.DocTestRunner(verbose=False).run(examples, out=told.append)
        self.assertEqual(results.attempted, many)
        self.assertEqual(results.failed, 0, "".join(told))

    def test_point_7(self):
        self.check("point 7", CELLS, 10)


if __name__ == "__main__":
    unittest.main()
