"""The examples of the document's interface, word for word."""

import doctest
import unittest

KINDS = """
>>> from changetables.kinds import Kinds
>>> kinds = Kinds({'put': (0, ('new',)), 'cut': (1, ()), 'swap': (2, (1, 0))})
>>> [kinds.names(), kinds['cut'], kinds.growth('put'), 'set' in kinds, len(kinds)]
[['cut', 'put', 'swap'], (1, ()), 1, False, 3]
"""

CHANGES = """
>>> from changetables.changes import done, done_all
>>> from changetables.kinds import Kinds
>>> kinds = Kinds({'put': (0, ('new',)), 'cut': (1, ()), 'swap': (2, (1, 0))})
>>> [done(kinds, (7, 8, 9), ('put', 1, 5, 0)), done_all(kinds, (7, 8, 9), [('swap', 1, None, 0), ('cut', 0, None, 1), None])]
[(7, 5, 8, 9), (9, 8)]
"""

TABLES = """
>>> from changetables.kinds import Kinds
>>> from changetables.tables import entry_of, natural, partner, values_of
>>> kinds = Kinds({'put': (0, ('new',)), 'cut': (1, ())})
>>> table, one, other = natural(kinds), ('put', 4, 50, 0), ('cut', 2, None, 1)
>>> [entry_of(one, other), table.behind(one, other), table.behind(other, one), partner(entry_of(one, other)), len(table.told), len(values_of(kinds, ('cut', 'put', 0, True)))]
[('put', 'cut', 2, True), ('put', 3, 50, 0), ('cut', 2, None, 1), ('cut', 'put', -2, False), 56, 6]
"""

TWOHANDS = """
>>> from changetables.kinds import Kinds
>>> from changetables.tables import natural
>>> from changetables.twohands import judge_two, meet_well
>>> cuts = natural(Kinds({'cut': (1, ())}))
>>> puts = natural(Kinds({'put': (0, ('new',))}))
>>> found = judge_two(puts.with_entry(('put', 'put', 0, False), ('put', 0)))
>>> [judge_two(cuts).ends['cut', 'cut', 1][:9], bool(judge_two(puts)), found.text, meet_well(cuts, (1, 2), ('cut', 0, None, 0), ('cut', 0, None, 5))]
[(0, 1, 2, 3, 4, 5, 6, 7, 10), True, (), True]
"""

ANYHANDS = """
>>> from changetables.anyhands import in_order, judge_any
>>> from changetables.kinds import Kinds
>>> from changetables.tables import natural
>>> puts, swaps = natural(Kinds({'put': (0, ('new',))})), natural(Kinds({'swap': (2, (1, 0))}))
>>> [in_order(puts, (1,), [('put', 0, 7, 0), ('put', 0, 8, 1), ('put', 1, 9, 2)], (2, 1, 0)), bool(judge_any(puts)), bool(judge_any(swaps))]
[(7, 8, 1, 9), True, False]
"""

FILLINGS = """
>>> from changetables.fillings import count_two, good_values, judge_filling
>>> from changetables.kinds import Kinds
>>> puts, both = Kinds({'put': (0, ('new',))}), Kinds({'put': (0, ('new',)), 'cut': (1, ())})
>>> [good_values(puts, ('put', 'put', 0, True)), count_two(both, {}), bool(judge_filling(both, {}, 2)), bool(judge_filling(both, {}, 3))]
[[(('put', 0), ('put', 1)), (('put', 1), ('put', 0))], 48, True, False]
"""

REPAIRS = """
>>> from changetables.kinds import Kinds
>>> from changetables.repairs import failing, friends, repaired
>>> from changetables.tables import natural
>>> bent = natural(Kinds({'put': (0, ('new',))})).with_entry(('put', 'put', 0, False), ('put', 0))
>>> [failing(bent), friends(bent), repaired(bent).changes]
[[(('put', 'put', 0, False), ('put', 'put', 0, True))], [], {('put', 'put', 0, True): ('put', 1)}]
"""

LISTS = """
>>> from changetables.kinds import Kinds
>>> from changetables.lists import effect, lists_behind, same_lists
>>> from changetables.tables import natural
>>> kinds = Kinds({'put': (0, ('new',)), 'cut': (1, ())})
>>> found = effect(kinds, [('put', 2, 50, 0), ('cut', 0, None, 0)])
>>> [found.need, found.row, found.of((5, 6, 7)), lists_behind(natural(kinds), [('put', 0, 50, 0), ('put', 1, 51, 0)], [('cut', 0, None, 1)])]
[2, (1, ('new', 50)), (6, 50, 7), ([('put', 0, 50, 0), ('put', 1, 51, 0)], [('cut', 2, None, 1)])]
"""

COUNTING = """
>>> from changetables.counting import count_any, mirrored, needs_hands, tables_two, together
>>> from changetables.kinds import Kinds
>>> from changetables.tables import natural
>>> kinds = Kinds({'put': (0, ('new',)), 'cut': (1, ()), 'swap': (2, (1, 0))})
>>> puts = Kinds({'put': (0, ('new',))})
>>> [together(kinds, 2), together(kinds, 3), count_any(puts, {}), needs_hands(kinds, 'put'), needs_hands(kinds, 'cut'), mirrored(natural(puts)) in tables_two(puts, {}, 9)]
[[('cut', 'put', 'swap')], [('cut',), ('put',)], 2, True, False, True]
"""

HOUSES = """
>>> from changetables.houses import closing, judge_house, run
>>> from changetables.kinds import Kinds
>>> from changetables.tables import natural
>>> table, steps = natural(Kinds({'put': (0, ('new',)), 'cut': (1, ())})), [('does', ('put', 1, 7, 0)), ('does', ('cut', 1, None, 1))]
>>> late = closing(table, (1, 2, 3), 2, steps)
>>> [late, run(table, (1, 2, 3), 2, steps).texts, run(table, (1, 2, 3), 2, steps + late).texts, bool(judge_house(table, 3))]
[[('sends', 0), ('sends', 1), ('hears', 0), ('hears', 0), ('hears', 1), ('hears', 1)], ((1, 7, 2, 3), (1, 3)), ((1, 7, 3), (1, 7, 3)), True]
"""

HISTORIES = """
>>> from changetables.histories import done_in, judge_history, orders_of
>>> from changetables.kinds import Kinds
>>> from changetables.tables import natural
>>> table = natural(Kinds({'put': (0, ('new',))}))
>>> history = [(('put', 0, 7, 0), ()), (('put', 0, 8, 1), ()), (('put', 2, 9, 0), (0, 1))]
>>> [orders_of(table, history), done_in(table, (1,), history, (1, 0, 2)), judge_history(table, (1,), history).text]
[[(0, 1, 2), (1, 0, 2)], (7, 8, 9, 1), (7, 8, 9, 1)]
"""

TURNING = """
>>> from changetables.kinds import Kinds
>>> from changetables.turning import kind_back, list_back, taken_back, turned, turned_kinds
>>> kinds = Kinds({'put': (0, ('new',)), 'cut': (1, ()), 'join': (2, ('new',))})
>>> [taken_back(kinds, (4, 5, 6), ('cut', 1, None, 0)), kind_back(kinds, 'put'), kind_back(kinds, 'join'), list_back(kinds, (4, 5), [('put', 0, 9, 0), ('cut', 2, None, 0)])]
[('put', 1, 5, 0), 'cut', None, [('put', 2, 5, 0), ('cut', 0, None, 0)]]
>>> [turned_kinds(Kinds({'move': (2, (1, 'new'))}))['move'], turned(kinds, (4, 5, 6), ('join', 0, 9, 1))]
[(2, ('new', 0)), ('join', 1, 9, 1)]
"""

TABLETEXTS = r"""
>>> from changetables.tabletexts import read_run, read_table, write_run, write_table
>>> table = read_table('kind put: 0 new\nput put at 0 not: put 0 # stays')
>>> [write_table(table), read_run(table.kinds, 'text 4 5\nhands 2\n0 does put at 1 with 7\n0 sends')]
['kind put: 0 new\nput put at 0 not: put 0\n', ((4, 5), 2, [('does', ('put', 1, 7, 0)), ('sends', 0)])]
>>> write_run((), 1, [('hears', 0)])
'text\nhands 1\n0 hears\n'
"""

DESKS = """
>>> from changetables.desks import Desk
>>> from changetables.kinds import Kinds
>>> from changetables.tables import natural
>>> desk = Desk(natural(Kinds({'put': (0, ('new',))})), (1,), 2)
>>> late = desk.does(('put', 0, 7, 0)).does(('put', 1, 8, 1)).sends(0).hears(1)
>>> [desk.text(), desk.texts(), desk.waits(1), len(desk), desk.close().texts(), len(desk.undo())]
[(7, 1), ((7, 1), (7, 1, 8)), [('put', 2, 8, 1)], 4, ((7, 1, 8), (7, 1, 8)), 4]
"""

TREES = """
>>> from changetables.kinds import Kinds
>>> from changetables.tables import natural
>>> from changetables.trees import closing_tree, judge_tree, run_tree
>>> table = natural(Kinds({'put': (0, ('new',)), 'cut': (1, ())}))
>>> steps = [('does', ('put', 0, 7, 0)), ('does', ('cut', 0, None, 2)), ('up', 2)]
>>> late = closing_tree(table, (1, 2), [0, 1], steps)
>>> [run_tree(table, (1, 2), [0, 1], steps).texts, late, run_tree(table, (1, 2), [0, 1], steps + late).texts, bool(judge_tree(table, [0, 1]))]
[((7, 1, 2), (2,), (2,)), [('up', 1), ('down', 1), ('down', 1), ('down', 2), ('down', 2)], ((7, 2), (7, 2), (7, 2)), True]
"""


class Examples(unittest.TestCase):
    def check(self, name, text):
        example = doctest.DocTestParser().get_doctest(text, {}, name, None, 0)
        told = []
        found = doctest.DocTestRunner(verbose=False).run(example, out=told.append)
        self.assertGreater(found.attempted, 0)
        self.assertEqual(found.failed, 0, "".join(told))

    def test_kinds(self):
        self.check("kinds", KINDS)

    def test_changes(self):
        self.check("changes", CHANGES)

    def test_tables(self):
        self.check("tables", TABLES)

    def test_twohands(self):
        self.check("twohands", TWOHANDS)

    def test_anyhands(self):
        self.check("anyhands", ANYHANDS)

    def test_fillings(self):
        self.check("fillings", FILLINGS)

    def test_repairs(self):
        self.check("repairs", REPAIRS)

    def test_lists(self):
        self.check("lists", LISTS)

    def test_counting(self):
        self.check("counting", COUNTING)

    def test_houses(self):
        self.check("houses", HOUSES)

    def test_histories(self):
        self.check("histories", HISTORIES)

    def test_turning(self):
        self.check("turning", TURNING)

    def test_tabletexts(self):
        self.check("tabletexts", TABLETEXTS)

    def test_desks(self):
        self.check("desks", DESKS)

    def test_trees(self):
        self.check("trees", TREES)


if __name__ == "__main__":
    unittest.main()
