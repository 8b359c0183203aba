"""The examples of the document's interface, word for word."""

import doctest
import unittest

KINDS = """
>>> from changetables.kinds import Kinds
>>> kinds = Kinds({'put': (0, ('new',)), 'cut': (1, ()), 'swap': (2, (1, 0))})
>>> [kinds.names(), kinds['cut'], kinds.growth('put'), 'set' in kinds, len(kinds)]
[['cut', 'put', 'swap'], (1, ()), 1, False, 3]
"""

CHANGES = """
>>> from changetables.changes import done, done_all
>>> from changetables.kinds import Kinds
>>> kinds = Kinds({'put': (0, ('new',)), 'cut': (1, ()), 'swap': (2, (1, 0))})
>>> [done(kinds, (7, 8, 9), ('put', 1, 5, 0)), done_all(kinds, (7, 8, 9), [('swap', 1, None, 0), ('cut', 0, None, 1), None])]
[(7, 5, 8, 9), (9, 8)]
"""

TABLES = """
>>> from changetables.kinds import Kinds
>>> from changetables.tables import entry_of, natural, partner, values_of
>>> kinds = Kinds({'put': (0, ('new',)), 'cut': (1, ())})
>>> table, one, other = natural(kinds), ('put', 4, 50, 0), ('cut', 2, None, 1)
>>> [entry_of(one, other), table.behind(one, other), table.behind(other, one), partner(entry_of(one, other)), len(table.told), len(values_of(kinds, ('cut', 'put', 0, True)))]
[('put', 'cut', 2, True), ('put', 3, 50, 0), ('cut', 2, None, 1), ('cut', 'put', -2, False), 56, 6]
"""


class Examples(unittest.TestCase):
    def check(self, name, text):
        example = doctest.DocTestParser().get_doctest(text, {}, name, None, 0)
        told = []
        found = doctest.DocTestRunner(verbose=False).run(example, out=told.append)
        self.assertGreater(found.attempted, 0)
        self.assertEqual(found.failed, 0, "".join(told))

    def test_kinds(self):
        self.check("kinds", KINDS)

    def test_changes(self):
        self.check("changes", CHANGES)

    def test_tables(self):
        self.check("tables", TABLES)


if __name__ == "__main__":
    unittest.main()
