"""Repairs: points [9] and [10], and what point [1] says of Repair."""

import unittest
from itertools import product
from random import Random

from changetables.anyhands import judge_any
from changetables.errors import BadNumber, BadTable
from changetables.repairs import Repair, failing, friends, repaired, repaired_any
from changetables.tables import Table, natural, partner
from changetables.twohands import Meets, judge_two
from reference import (ALWAYS, ROWS, SOMETIMES, bent, entries_of, failing_pairs, good_by_trying, good_tables,
                       kinds_of, raised, some_turn, turned_entry, values_for)

PUTS, BOTH, SETS = natural(kinds_of("put")), natural(kinds_of("put cut")), natural(kinds_of("set"))
LESS, NOT = ("put", "put", 0, True), ("put", "put", 0, False)
BENT = PUTS.with_entry(NOT, ("put", 0))
NO_TABLES = [None, 0, {}, "table", PUTS.told, PUTS.kinds]


def tables_for(kinds):
    """What all tables tell that let all two changes meet well, of kinds with few of them."""
    entries = [entry for entry in entries_of(kinds) if entry[3]]
    found = []
    for pairs in product(*[good_by_trying(kinds, entry) for entry in entries]):
        told = {}
        for entry, pair in zip(entries, pairs):
            told[entry], told[turned_entry(entry)] = pair
        found.append({entry: told[entry] for entry in entries_of(kinds)})
    return found


def changes_between(table, told):
    """The entries, ascending, with other values than those of a table, and these."""
    return {entry: told[entry] for entry in entries_of(table.kinds) if told[entry] != table.told[entry]}


def in_order(told):
    """The values of all entries in their order, so that None comes ahead of pairs."""
    return [(0,) if value is None else (1, *value) for value in told.values()]


def near(random, kinds, told, many):
    """A table that differs in so many entries, drawn."""
    told = dict(told)
    for entry in random.sample(entries_of(kinds), many):
        told[entry] = random.choice([value for value in values_for(kinds, entry) if value != told[entry]])
    return Table(kinds, told)


class Failing(unittest.TestCase):
    def test_natural_tables_against_trying_changes(self):
        for words in (*ROWS, "put cut", "put swap", "set join", "aa bb", "put cut swap"):
            table = natural(kinds_of(words))
            with self.subTest(words):
                self.assertEqual(failing(table), failing_pairs(table.kinds, table.told, 9))

    def test_tables_with_other_entries_against_trying_changes(self):
        random = Random(1)
        for words in ("put", "cut", "set", "swap", "put cut", "set drop", "put cut set"):
            for many in (1, 2, 8):
                table = bent(random, kinds_of(words), many)
                with self.subTest(words, told=table.told):
                    self.assertEqual(failing(table), failing_pairs(table.kinds, table.told, 9))

    def test_each_entry_alone(self):
        for entry in entries_of(BOTH.kinds):
            other = turned_entry(entry)
            pair = (entry, other) if entry < other else (other, entry)
            table = BOTH.with_entry(entry, None if BOTH.told[entry] else (entry[0], 2))
            with self.subTest(entry=entry):
                self.assertEqual(failing(table), [pair])

    def test_tables_that_do(self):
        random = Random(2)
        self.assertEqual(failing(BOTH), [])
        for words in (*SOMETIMES, "put cut swap"):
            for table in good_tables(random, kinds_of(words), 2):
                self.assertEqual(failing(table), [])

    def test_the_example(self):
        self.assertEqual(failing(BENT), [(NOT, LESS)])

    def test_no_tables_and_new_lists(self):
        for table in NO_TABLES:
            self.assertIsNone(raised(BadTable, failing, table).entry)
        failing(BENT).clear()
        self.assertEqual(len(failing(BENT)), 1)


class Friends(unittest.TestCase):
    def check(self, table):
        foes = {tuple(sorted(entry[:2])) for entry, _ in failing_pairs(table.kinds, table.told, 9)}
        names = sorted(table.kinds.told)
        self.assertEqual(friends(table), [(one, other) for at, one in enumerate(names) for other in names[at:]
                                          if (one, other) not in foes])

    def test_against_trying_changes(self):
        random = Random(3)
        for words in ("put", "set", "put cut", "put cut swap", "cut set join", "put cut set swap"):
            kinds = kinds_of(words)
            self.check(natural(kinds))
            for many in (1, 3):
                with self.subTest(words, many=many):
                    self.check(near(random, kinds, natural(kinds).told, many))

    def test_of_tables_that_do_and_the_example(self):
        self.assertEqual(friends(BOTH), [("cut", "cut"), ("cut", "put"), ("put", "put")])
        self.assertEqual(friends(BENT), [])
        self.assertEqual(friends(BOTH.with_entry(("put", "cut", -2, True), None)), [("cut", "cut"), ("put", "put")])
        self.assertEqual(friends(BOTH.with_entry(("cut", "cut", 2, True), None)), [("cut", "put"), ("put", "put")])

    def test_no_tables_and_new_lists(self):
        for table in NO_TABLES:
            self.assertIsNone(raised(BadTable, friends, table).entry)
        friends(BOTH).clear()
        self.assertEqual(len(friends(BOTH)), 3)


class Repaired(unittest.TestCase):
    def check(self, table, tables):
        """Hold the answer against all tables that do."""
        found = repaired(table)
        best = min(tables, key=lambda told: (len(changes_between(table, told)), in_order(told)))
        self.assertEqual(found, Repair(changes_between(table, best), 2))
        self.assertEqual(list(found.changes), sorted(found.changes))
        self.assertIs(found.shows(table), True)

    def test_the_example(self):
        self.assertEqual(repaired(BENT).changes, {LESS: ("put", 1)})

    def test_against_all_tables_that_do(self):
        random = Random(4)
        for words in SOMETIMES:
            kinds = kinds_of(words)
            tables = tables_for(kinds)
            self.check(natural(kinds), tables)
            for many in (1, 2, 3, 6, 14):
                with self.subTest(words, many=many):
                    self.check(near(random, kinds, random.choice(tables), many), tables)

    def test_of_several_with_as_few_the_first(self):
        # Both entries have to change, to 0 and 1 or to 1 and 0: the lesser entry, with False, gets 0.
        table = PUTS.with_entry(LESS, None).with_entry(NOT, None)
        self.assertEqual(repaired(table).changes, {NOT: ("put", 0), LESS: ("put", 1)})
        self.assertEqual(repaired(table.with_entry(LESS, ("put", 0))).changes, {NOT: ("put", 1)})
        self.assertEqual(repaired(PUTS.with_entry(LESS, ("put", 1))).changes, {NOT: ("put", 0)})
        # One of both is enough: None comes ahead of pairs.
        kinds = kinds_of("cut set")
        table = natural(kinds).with_entry(("cut", "set", 0, True), ("cut", 0)).with_entry(
            ("set", "cut", 0, False), ("set", 1))
        self.assertIn((("cut", 0), None), good_by_trying(kinds, ("cut", "set", 0, True)))
        self.assertIsNone(repaired(table).changes[("set", "cut", 0, False)])

    def test_of_a_table_in_which_nothing_is_told(self):
        for words in ("put", "cut", "put cut", "set swap"):
            kinds = kinds_of(words)
            table = Table(kinds, dict.fromkeys(entries_of(kinds)))
            self.check(table, tables_for(kinds))

    def test_where_there_is_none(self):
        for words in (set(ROWS) - {"put", "cut", "set", "swap"}) | {"put swap", "put drop", "put cut drop"}:
            self.assertIsNone(repaired(natural(kinds_of(words))))

    def test_of_tables_that_do_already(self):
        for table in (PUTS, BOTH, *good_tables(Random(5), kinds_of("put cut swap"), 2)):
            self.assertEqual(repaired(table), Repair({}, 2))

    def test_of_three_and_four_kinds(self):
        random = Random(6)
        for words in ("put cut swap", "cut set join", "put cut set swap"):
            kinds = kinds_of(words)
            good, = good_tables(random, kinds, 1)
            table = near(random, kinds, good.told, 2)
            found = repaired(table)
            self.assertTrue(found.shows(table))
            self.assertLessEqual(len(found.changes), 2)
            self.assertEqual(len({tuple(sorted((entry, turned_entry(entry)))) for entry in found.changes}),
                             len(failing(table)))

    def test_no_tables_and_the_table_is_not_changed(self):
        for table in NO_TABLES:
            self.assertIsNone(raised(BadTable, repaired, table).entry)
        before = dict(BENT.told)
        repaired(BENT).changes.clear()
        repaired_any(BENT, 3)
        self.assertEqual(BENT.told, before)


class RepairedAny(unittest.TestCase):
    def check(self, table, agreeing):
        fewest = min([len(changes_between(table, told)) for told in agreeing], default=9)
        for most in range(4):
            found = repaired_any(table, most)
            if fewest > most:
                self.assertIsNone(found)
            else:
                self.assertEqual((len(found.changes), found.many), (fewest, 3))
                self.assertEqual(list(found.changes), sorted(found.changes))
                self.assertIs(found.shows(table), True)
                self.assertIn({**table.told, **found.changes}, agreeing)
        return fewest

    def test_against_all_tables_that_agree(self):
        random = Random(7)
        seen = set()
        for words in SOMETIMES:
            kinds = kinds_of(words)
            tables = tables_for(kinds)
            agreeing = [told for told in tables if not some_turn(kinds, told, 4)]
            self.assertIs(agreeing != [], words in ALWAYS)
            seen.add(self.check(natural(kinds), agreeing))
            for told in [random.choice(tables) for _ in range(3)]:
                for many in (0, 1, 2, 4):
                    with self.subTest(words, many=many):
                        seen.add(self.check(near(random, kinds, told, many), agreeing))
        self.assertLessEqual({0, 1, 2, 3, 9}, seen)

    def test_the_nearest_of_tables_by_which_two_hands_do(self):
        # Each of these lets all two meet well, but most do not let any number agree.
        kinds = kinds_of("put set")
        tables = tables_for(kinds)
        agreeing = [told for told in tables if not some_turn(kinds, told, 4)]
        for told in tables:
            self.check(Table(kinds, told), agreeing)

    def test_of_tables_that_do_already_and_of_one_that_nearly_does(self):
        for most in range(4):
            self.assertEqual(repaired_any(PUTS, most), Repair({}, 3))
        self.assertIsNone(repaired_any(BENT, 0))
        for most in (1, 2, 3):
            self.assertEqual(repaired_any(BENT, most).changes, {LESS: ("put", 1)})

    def test_where_there_is_none(self):
        for words in ("drop", "swap", "put cut", "put swap"):
            self.assertIsNone(repaired_any(natural(kinds_of(words)), 3))

    def test_errors(self):
        for table in NO_TABLES:
            self.assertIsNone(raised(BadTable, repaired_any, table, None).entry)
        for most in (None, -1, 4, 100, True, False, "1", 1.0, (1,)):
            raised(BadNumber, repaired_any, PUTS, most)


class OfRepair(unittest.TestCase):
    CHANGES = {LESS: ("put", 1)}

    def test_equal_and_bool(self):
        self.assertEqual(Repair(self.CHANGES, 2), Repair(dict(self.CHANGES), 2))
        self.assertNotEqual(Repair(self.CHANGES, 2), Repair(self.CHANGES, 3))
        self.assertNotEqual(Repair(self.CHANGES, 2), Repair({}, 2))
        self.assertNotEqual(Repair(self.CHANGES, 2), Repair({LESS: ("put", 2)}, 2))
        self.assertNotEqual(Repair({}, 2), Meets({}))
        self.assertNotEqual(Repair({}, 2), {})
        self.assertIs(bool(Repair({}, 2)), True)
        self.assertIs(bool(Repair(self.CHANGES, 3)), True)

    def test_the_dict_is_a_new_one(self):
        changes = dict(self.CHANGES)
        found = Repair(changes, 2)
        changes.clear()
        self.assertEqual(found.changes, self.CHANGES)

    def test_shows(self):
        for many in (2, 3):
            self.assertIs(Repair(self.CHANGES, many).shows(BENT), True)
            self.assertIs(Repair({NOT: ("put", 1)}, many).shows(BENT), True)
            self.assertIs(Repair({}, many).shows(BENT), False)
            self.assertIs(Repair({}, many).shows(PUTS), True)
            self.assertIs(Repair({NOT: ("put", 2)}, many).shows(BENT), False)
            self.assertIs(Repair({LESS: None}, many).shows(BENT), False)

    def test_shows_does_not_ask_for_the_fewest(self):
        both = {LESS: ("put", 1), NOT: ("put", 0)}
        self.assertTrue(Repair(both, 2).shows(PUTS))
        self.assertTrue(Repair({entry: both[entry] for entry in (NOT, LESS)}, 3).shows(PUTS))

    def test_an_entry_whose_value_is_that_of_the_table(self):
        self.assertIs(Repair({**self.CHANGES, NOT: ("put", 0)}, 2).shows(BENT), False)
        self.assertIs(Repair({LESS: ("put", 0)}, 2).shows(PUTS), False)
        self.assertIs(Repair({("cut", "cut", 0, True): None}, 2).shows(natural(kinds_of("cut"))), False)

    def test_shows_for_two_hands_and_for_any_number(self):
        self.assertTrue(judge_two(BOTH))
        self.assertFalse(judge_any(BOTH))
        self.assertIs(Repair({}, 2).shows(BOTH), True)
        self.assertIs(Repair({}, 3).shows(BOTH), False)

    def test_shows_with_what_is_none(self):
        for changes, many in (
                (self.CHANGES, 1), (self.CHANGES, 4), (self.CHANGES, True), (self.CHANGES, None), (self.CHANGES, -2),
                ({LESS: ("put", True)}, 2), ({LESS: ("cut", 1)}, 2), ({LESS: ("put", 3)}, 2), ({LESS: 5}, 2),
                ({("put", "put", 0, 1): ("put", 1)}, 2), ({("put", "put", False, True): ("put", 1)}, 2),
                ({**self.CHANGES, ("put", "put", 4, True): None}, 2), ({**self.CHANGES, ("put", "cut", 0, True): None}, 2),
                ({**self.CHANGES, ("put", "put", 0): None}, 2), ({**self.CHANGES, "put": None}, 2)):
            with self.subTest(changes=changes, many=many):
                self.assertIs(Repair(changes, many).shows(BENT), False)

    def test_shows_what_the_attributes_are_now(self):
        found = repaired(BENT)
        found.many = 3
        self.assertTrue(found.shows(BENT))
        found.changes[NOT] = ("put", 1)
        self.assertFalse(found.shows(BENT))
        found.changes = {NOT: ("put", 1)}
        self.assertTrue(found.shows(BENT))
        found.many = 5
        self.assertFalse(found.shows(BENT))

    def test_each_value_of_each_entry(self):
        for entry in entries_of(SETS.kinds):
            for value in values_for(SETS.kinds, entry):
                table = Table(SETS.kinds, {**SETS.told, entry: value})
                expected = value != SETS.told[entry] and failing_pairs(SETS.kinds, table.told, 9) == []
                self.assertIs(Repair({entry: value}, 2).shows(SETS), expected)

    def test_no_tables(self):
        for table in NO_TABLES:
            self.assertIsNone(raised(BadTable, Repair({}, 2).shows, table).entry)
            self.assertIsNone(raised(BadTable, Repair({}, 7).shows, table).entry)


class Partners(unittest.TestCase):
    def test_failing_tells_partners(self):
        for entry, other in failing(natural(kinds_of("put swap"))):
            self.assertEqual(partner(entry), other)
            self.assertLess(entry, other)


if __name__ == "__main__":
    unittest.main()
