"""What point [1], and the head of the interface, promise over the whole program."""

import unittest

from changetables import (anyhands, changes, counting, desks, errors, fillings, histories, houses, kinds, lists, repairs,
                          tables, tabletexts, trees, turning, twohands)
from changetables.kinds import Kinds
from changetables.tables import Table, natural
from reference import kinds_of, raised

BOTH = kinds_of("put cut")
PUTS = kinds_of("put")
TABLE = natural(BOTH)
BENT = natural(PUTS).with_entry(("put", "put", 0, False), ("put", 0))
PUT, CUT = ("put", 0, 7, 0), ("cut", 0, None, 1)
LESS = ("put", "put", 0, True)
STEPS = [("does", PUT), ("does", CUT), ("sends", 1)]
UPS = [("does", PUT), ("does", CUT), ("up", 1)]
STORY = [(PUT, ()), (CUT, ()), (("put", 1, 8, 2), (0, 1))]
MEETS, SPLITS = twohands.judge_two(TABLE), twohands.judge_two(BENT)
TURNS = anyhands.judge_any(TABLE)
BARRED = fillings.judge_filling(BOTH, {}, 3)

# All that takes kinds or a table first, with arguments that are right.
BY_KINDS = [
    (changes.done, [BOTH, (1, 2), PUT]), (changes.done_all, [BOTH, (1, 2), [PUT, None, CUT]]), (tables.natural, [BOTH]),
    (tables.values_of, [BOTH, LESS]), (fillings.good_values, [BOTH, LESS]), (fillings.count_two, [BOTH, {LESS: None}]),
    (fillings.judge_filling, [PUTS, {LESS: ("put", 0)}, 3]), (fillings.judge_filling, [PUTS, {LESS: None}, 2]),
    (lists.effect, [BOTH, [PUT, CUT]]), (lists.same_lists, [BOTH, [PUT], [CUT, None]]),
    (counting.tables_two, [PUTS, {LESS: ("put", 0)}, 5]), (counting.count_any, [PUTS, {}]), (counting.tables_any, [PUTS, {}]),
    (counting.together, [BOTH, 2]), (counting.together, [BOTH, 3]), (counting.needs_hands, [BOTH, "put"]),
    (turning.taken_back, [BOTH, (1, 2), CUT]), (turning.kind_back, [BOTH, "put"]), (turning.list_back, [BOTH, (1,), [PUT, CUT]]),
    (turning.turned_kinds, [BOTH]), (turning.turned, [BOTH, (1, 2), CUT]), (tabletexts.read_run, [BOTH, "text 1\nhands 2"]),
    (tabletexts.write_kinds, [BOTH]), (Table, [BOTH, TABLE.told]),
    (fillings.Filled(natural(PUTS)).shows, [PUTS, {LESS: ("put", 0)}, 3]), (BARRED.shows, [BOTH, {}, 3]),
]
BY_TABLE = [
    (twohands.judge_two, [TABLE]), (twohands.judge_two, [BENT]), (twohands.meet_well, [TABLE, (1, 2), PUT, CUT]),
    (anyhands.in_order, [TABLE, (1, 2), [PUT, CUT], (1, 0)]), (anyhands.all_orders, [TABLE, (1, 2), [PUT, CUT]]),
    (anyhands.judge_any, [TABLE]), (anyhands.judge_any, [natural(PUTS)]), (repairs.failing, [BENT]), (repairs.friends, [TABLE]),
    (repairs.repaired, [BENT]), (repairs.repaired_any, [BENT, 2]), (lists.lists_behind, [TABLE, [PUT, None], [CUT]]),
    (counting.mirrored, [TABLE]), (houses.run, [TABLE, (1, 2), 2, STEPS]), (houses.closing, [TABLE, (1, 2), 2, STEPS]),
    (houses.judge_house, [TABLE, 3]), (houses.judge_house, [BENT, 3]), (histories.orders_of, [TABLE, STORY]),
    (histories.done_in, [TABLE, (1, 2), STORY, (1, 0, 2)]), (histories.judge_history, [TABLE, (1, 2), STORY]),
    (turning.renamed, [TABLE, {"put": "a", "cut": "b"}]), (turning.exchanged, [TABLE]), (tabletexts.write_table, [BENT]),
    (trees.run_tree, [TABLE, (1, 2), [0, 1], UPS]), (trees.closing_tree, [TABLE, (1, 2), [0, 1], UPS]),
    (trees.judge_tree, [TABLE, [0, 1]]), (trees.judge_tree, [BENT, [0, 1]]), (fillings.Filled, [TABLE]),
    (MEETS.shows, [TABLE]), (SPLITS.shows, [BENT]), (anyhands.Agrees().shows, [natural(PUTS)]), (TURNS.shows, [TABLE]),
    (repairs.repaired(BENT).shows, [BENT]), (houses.Serves(3).shows, [TABLE, 3]),
    (houses.judge_house(BENT, 2).shows, [BENT, 2]), (histories.SameEnd((7, 8, 2)).shows, [TABLE, (1, 2), STORY]),
    (histories.PartedEnd((0, 1, 2), (1, 0, 2)).shows, [TABLE, (1, 2), STORY]), (trees.Grows([0, 1]).shows, [TABLE, [0, 1]]),
    (trees.judge_tree(BENT, [0]).shows, [BENT, [0]]), (desks.Desk, [TABLE, (1, 2), 3]),
]


def seen(value):
    """A copy of a value that shows all that is in it."""
    if isinstance(value, (list, tuple)):
        return [type(value).__name__, *(seen(part) for part in value)]
    if isinstance(value, dict):
        return ["dict", *((seen(key), seen(part)) for key, part in value.items())]
    if hasattr(value, "__dict__"):
        return [type(value).__name__, *((name, seen(part)) for name, part in vars(value).items())]
    return value


def spoil(value):
    """Change all lists and dicts in a value."""
    if isinstance(value, tuple):
        for part in value:
            spoil(part)
    elif isinstance(value, (list, dict)):
        for part in list(value.values() if isinstance(value, dict) else value):
            spoil(part)
        value.clear()
    elif hasattr(value, "__dict__"):
        for part in vars(value).values():
            spoil(part)


class First(unittest.TestCase):
    def test_kinds_that_are_none(self):
        for call, arguments in BY_KINDS:
            for none in (None, 0, "put", [], {}, {"put": (0, ("new",))}, TABLE):
                with self.subTest(call=call, none=none):
                    self.assertIsNone(raised(errors.BadKinds, call, none, *[None] * (len(arguments) - 1)).name)

    def test_tables_that_are_none(self):
        for call, arguments in BY_TABLE:
            for none in (None, 0, "put", [], {}, TABLE.told, BOTH):
                with self.subTest(call=call, none=none):
                    self.assertIsNone(raised(errors.BadTable, call, none, *[None] * (len(arguments) - 1)).entry)

    def test_all_errors_are_change_errors(self):
        found = [errors.BadKinds, errors.BadChange, errors.BadText, errors.CannotDo, errors.BadTable, errors.SameHand,
                 errors.BadNumber, houses.BadStep, houses.BadHistory, houses.BadScript, houses.NothingDone]
        self.assertEqual({error.__bases__ for error in found}, {(errors.ChangeError,)})


class Copies(unittest.TestCase):
    def test_arguments_are_not_changed(self):
        for call, arguments in BY_KINDS + BY_TABLE:
            before = seen(arguments)
            with self.subTest(call=call):
                call(*arguments)
                self.assertEqual(seen(arguments), before)

    def test_what_is_returned_is_new(self):
        for call, arguments in BY_KINDS + BY_TABLE:
            with self.subTest(call=call):
                before, found = seen(arguments), call(*arguments)
                wanted = seen(found)
                if not isinstance(found, desks.Desk):
                    spoil(found)
                self.assertEqual(seen(arguments), before)
                self.assertEqual(seen(call(*arguments)), wanted)

    def test_what_is_read_is_new(self):
        for call, text in ((tabletexts.read_kinds, "kind put: 0 new"), (tabletexts.read_table, "kind put: 0 new")):
            found = call(text)
            wanted = seen(found)
            spoil(found)
            self.assertEqual(seen(call(text)), wanted)

    def test_what_is_given_to_a_class_is_copied(self):
        told, entries, links = {"put": (0, ("new",))}, dict(natural(PUTS).told), [0, 1]
        steps, three, repair = list(STEPS), list(TURNS.changes), {LESS: None}
        made = [Kinds(told), Table(PUTS, entries), trees.Grows(links), trees.Withers((), steps), houses.Fails((), steps),
                anyhands.Turns((1,), three, (0, 1, 2), (1, 0, 2)), twohands.Meets(entries), repairs.Repair(repair, 2)]
        before = [seen(each) for each in made]
        for given in (told, entries, links, steps, three, repair):
            given.clear()
        self.assertEqual([seen(each) for each in made], before)

    def test_a_table_that_is_given_is_copied(self):
        table = natural(PUTS)
        filled, desk = fillings.Filled(table), desks.Desk(table, (), 2).does(("put", 0, 5, 0)).does(("put", 0, 6, 1))
        table.told.clear()
        table.kinds.told.clear()
        self.assertTrue(filled.shows(PUTS, {}, 2))
        self.assertEqual(desk.close().text(), (5, 6))
        kinds_given = kinds_of("put")
        table = Table(kinds_given, natural(PUTS).told)
        kinds_given.told.clear()
        self.assertEqual(table, natural(PUTS))


class Evidence(unittest.TestCase):
    MADE = [(MEETS, True), (SPLITS, False), (anyhands.Agrees(), True), (TURNS, False), (fillings.Filled(TABLE), True),
            (BARRED, False), (repairs.Repair({LESS: None}, 2), True), (houses.Serves(2), True),
            (houses.Fails((), STEPS), False), (histories.SameEnd(()), True), (histories.PartedEnd((), ()), False),
            (trees.Grows([0]), True), (trees.Withers((), UPS), False)]

    def test_bool(self):
        for found, wanted in self.MADE:
            self.assertIs(bool(found), wanted)

    def test_of_other_classes_it_is_not_equal(self):
        for at, (one, _) in enumerate(self.MADE):
            for number, (other, _) in enumerate(self.MADE):
                self.assertIs(one == other, at == number)
                self.assertIs(one != other, at != number)
            self.assertFalse(one == vars(one))

    def test_each_attribute_counts(self):
        for found, _ in self.MADE:
            names = list(vars(found))
            for name in names:
                with self.subTest(found=type(found), name=name):
                    held = getattr(found, name)
                    again = type(found)(*[getattr(found, each) for each in names])
                    self.assertTrue(again == found)
                    setattr(again, name, "other")
                    self.assertFalse(again == found)
                    setattr(again, name, held)
                    self.assertTrue(again == found)

    def test_ends_and_effects_are_equal_likewise(self):
        for found in (houses.run(TABLE, (1, 2), 2, STEPS), trees.run_tree(TABLE, (1, 2), [0, 1], UPS),
                      lists.effect(BOTH, [PUT, CUT])):
            names = list(vars(found))
            for name in names:
                again = type(found)(*[getattr(found, each) for each in names])
                self.assertTrue(again == found)
                setattr(again, name, "other")
                self.assertFalse(again == found)


class Booleans(unittest.TestCase):
    """Booleans are not integers."""

    def test_changes_and_texts(self):
        for call in (changes.done, turning.taken_back, turning.turned):
            raised(errors.BadText, call, BOTH, (True, 2), PUT)
            for change in (("put", False, 7, 0), ("put", 0, True, 0), ("put", 0, 7, False)):
                self.assertEqual(raised(errors.BadChange, call, BOTH, (1, 2), change).place, 0)
        raised(errors.BadText, lists.Effect(0, ()).of, (True,))
        for call in (lists.effect, lambda told, given: lists.same_lists(told, given, []),
                     lambda told, given: lists.lists_behind(TABLE, given, [])):
            self.assertEqual(raised(errors.BadChange, call, BOTH, [None, ("put", False, 7, 0)]).place, 1)

    def test_numbers(self):
        for call, arguments in ((counting.tables_two, [PUTS, {}, True]), (counting.together, [PUTS, True]),
                                (houses.run, [TABLE, (), True, []]), (houses.closing, [TABLE, (), True, []]),
                                (trees.run_tree, [TABLE, (), [False], []]), (trees.judge_tree, [TABLE, [0, True]]),
                                (desks.Desk, [TABLE, (), True]), (desks.Desk(TABLE, (), 2).of, [True]),
                                (desks.Desk(TABLE, (), 2).waits, [False]), (repairs.repaired_any, [TABLE, True]),
                                (histories.done_in, [TABLE, (1, 2), STORY[:2], (False, True)])):
            raised(errors.BadNumber, call, *arguments)

    def test_steps_and_events(self):
        desk = desks.Desk(TABLE, (1, 2), 2).does(PUT)
        for call, place in ((lambda: houses.run(TABLE, (1, 2), 2, [("does", PUT), ("sends", False)]), 1),
                            (lambda: trees.run_tree(TABLE, (1, 2), [0, 1], [("does", ("cut", 0, None, 1)), ("up", True)]), 1),
                            (lambda: desk.sends(False), 1), (lambda: desk.hears(True), 1)):
            self.assertEqual(raised(houses.BadStep, call).place, place)
        self.assertEqual(raised(houses.BadHistory, histories.orders_of, TABLE, [(PUT, ()), (CUT, (False,))]).number, 1)

    def test_entries(self):
        for call in (counting.count_any, counting.tables_any, lambda told, part: counting.tables_two(told, part, 1)):
            for entry, value in ((("put", "put", False, True), None), (("put", "put", 0, 1), None), (LESS, ("put", True))):
                self.assertEqual(raised(errors.BadTable, call, PUTS, {entry: value}).entry, entry)


class Groups(unittest.TestCase):
    """A list is no tuple, and a tuple no list, unless both are told."""

    def test_lists_that_must_be_tuples(self):
        raised(errors.BadText, changes.done, BOTH, [1, 2], PUT)
        raised(errors.BadText, houses.run, TABLE, [1, 2], 2, [])
        raised(errors.BadText, trees.run_tree, TABLE, [1, 2], [0], [])
        raised(errors.BadText, desks.Desk, TABLE, [1, 2], 2)
        raised(errors.BadText, histories.judge_history, TABLE, [1, 2], [])
        raised(errors.BadText, lists.Effect(0, ()).of, [1, 2])
        self.assertEqual(raised(errors.BadChange, lists.effect, BOTH, [list(PUT)]).place, 0)
        self.assertEqual(raised(houses.BadStep, houses.run, TABLE, (1,), 2, [["does", PUT]]).place, 0)
        self.assertEqual(raised(houses.BadStep, trees.run_tree, TABLE, (1,), [0], [["does", PUT]]).place, 0)
        self.assertEqual(raised(houses.BadHistory, histories.orders_of, TABLE, [[PUT, ()]]).number, 0)
        self.assertEqual(raised(houses.BadHistory, histories.orders_of, TABLE, [(PUT, [])]).number, 0)
        raised(errors.BadNumber, histories.done_in, TABLE, (1,), [(PUT, ())], [0])
        raised(errors.BadNumber, anyhands.in_order, TABLE, (1,), [PUT], [0])

    def test_where_both_are_told(self):
        for call, arguments in BY_KINDS + BY_TABLE:
            both = [tuple(part) if isinstance(part, list) else part for part in arguments]
            if both != arguments:
                with self.subTest(call=call):
                    self.assertEqual(seen(call(*both)), seen(call(*arguments)))

    def test_what_is_returned(self):
        self.assertEqual([type(part) for part in lists.lists_behind(TABLE, (PUT,), (CUT,))], [list, list])
        self.assertIs(type(houses.closing(TABLE, (1, 2), 2, tuple(STEPS))), list)
        self.assertIs(type(turning.list_back(BOTH, (1,), (PUT,))), list)
        self.assertEqual({type(group) for group in counting.together(BOTH, 3)}, {tuple})
        self.assertEqual({type(order) for order in histories.orders_of(TABLE, tuple(STORY))}, {tuple})


if __name__ == "__main__":
    unittest.main()
