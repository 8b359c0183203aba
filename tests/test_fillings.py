"""Fillings: points [7] and [8], and what point [1] says of Filled and Barred."""

import unittest
from itertools import product
from random import Random

from changetables.anyhands import judge_any
from changetables.errors import BadKinds, BadNumber, BadTable
from changetables.fillings import Barred, Filled, count_two, good_values, judge_filling
from changetables.kinds import Kinds
from changetables.tables import Table, natural, partner, values_of
from changetables.twohands import judge_two
from reference import (ALWAYS, ROWS, SOMETIMES, bent, done_to, end_of_both, entries_of, form_of, good_by_trying,
                       kinds_of, raised, some_turn, turned_entry, turns_well, values_for)

PUT, CUT, BOTH, SWAP, DROP = [kinds_of(words) for words in ("put", "cut", "put cut", "swap", "drop")]
SAME = ("put", "put", 0, True)
NO_KINDS = [None, 0, {}, {"put": (0, ("new",))}, natural(PUT)]
NO_PARTS = [None, 0, [], (), "part", natural(PUT)]
# Each has one key that is no entry, or a value that is none of its entry.
WRONG_PARTS = [({entry: value}, entry) for entry, value in (
    (("put", "put", 4, True), None), (("put", "put", True, True), None), (("put", "put", 0, 1), None), ("put", None),
    (None, None), (("put", "set", 0, True), None), (("put", "put", 0), None), (SAME, ("put", 3)), (SAME, ("put", True)),
    (SAME, ("set", 0)), (SAME, 0), (SAME, ()), (SAME, ["put", 0]), (("cut", "put", 0, True), ("put", 0)))]


def good_of(kinds):
    """For each entry with True the pairs of values that do, by trying."""
    return {entry: good_by_trying(kinds, entry) for entry in entries_of(kinds) if entry[3]}


def tables_with(kinds, good, part):
    """What all tables tell that have the values of a part and let all two changes meet well."""
    found = []
    for pairs in product(*good.values()):
        told = {}
        for entry, pair in zip(good, pairs):
            told[entry], told[turned_entry(entry)] = pair
        if all(told[entry] == part[entry] for entry in part):
            found.append(told)
    return found


def drawn_part(random, kinds, good, many):
    """A part with a value for so many entries, most of which some table has that lets all two meet well."""
    part = {}
    for entry in random.sample(entries_of(kinds), many):
        pairs = good[entry if entry[3] else turned_entry(entry)]
        if pairs and random.random() < 0.8:
            pair = random.choice(pairs)
            part[entry] = pair[0] if entry[3] else pair[1]
        else:
            part[entry] = random.choice(values_for(kinds, entry))
    return part


class Walk:
    """A walk through a tree down to all leaves, each held against points [5] and [6]."""

    def __init__(self, test, kinds, many):
        self.test, self.kinds, self.many, self.leaves = test, kinds, many, 0

    def down(self, told, tree):
        self.test.assertIsInstance(tree, tuple)
        if tree[0] == "entry":
            _, entry, branches = tree
            self.test.assertIn(entry, entries_of(self.kinds))
            self.test.assertNotIn(entry, told)
            self.test.assertEqual(sorted(map(repr, (value for value, _ in branches))),
                                  sorted(map(repr, values_for(self.kinds, entry))))
            for value, below in branches:
                self.down({**told, entry: value}, below)
        elif tree[0] == "two":
            self.two(told, *tree[1:])
        else:
            self.test.assertEqual((tree[0], len(tree), self.many), ("any", 2, 3))
            self.three(told, tree[1])

    def two(self, told, length, changes):
        self.leaves += 1
        one, other = changes
        self.test.assertLessEqual(length, 20)
        self.test.assertNotEqual(one[3], other[3])
        for change in changes:
            self.test.assertIsNotNone(done_to(self.kinds, tuple(range(length)), change))
            self.test.assertTrue(change[2] is None or change[2] >= 100)
        self.test.assertTrue(one[2] is None or one[2] != other[2])
        form_of(self.kinds, told, other, one), form_of(self.kinds, told, one, other)
        self.test.assertIsNone(end_of_both(self.kinds, told, tuple(range(length)), one, other))

    def three(self, told, changes):
        self.leaves += 1
        self.test.assertEqual(len({change[3] for change in changes}), 3)
        for _, place, _, _ in changes:
            self.test.assertTrue(20 <= place <= 60)
        self.test.assertFalse(turns_well(self.kinds, told, *changes))


class GoodValues(unittest.TestCase):
    def test_all_entries_of_some_kinds_against_trying_all_pairs(self):
        for words in ("put", "cut", "set", "swap", "drop", "bb", "put cut", "cut join"):
            kinds = kinds_of(words)
            for entry in entries_of(kinds):
                with self.subTest(entry=entry):
                    self.assertEqual(good_values(kinds, entry), good_by_trying(kinds, entry))

    def test_drawn_entries_of_two_and_three_kinds(self):
        random = Random(1)
        for words in ("put set", "cut swap", "pull move", "aa cc", "put cut swap", "set cut drop"):
            kinds = kinds_of(words)
            for entry in random.sample(entries_of(kinds), 8):
                with self.subTest(entry=entry):
                    self.assertEqual(good_values(kinds, entry), good_by_trying(kinds, entry))

    def test_the_example(self):
        self.assertEqual(good_values(PUT, SAME), [(("put", 0), ("put", 1)), (("put", 1), ("put", 0))])

    def test_none_comes_ahead_of_pairs(self):
        found = good_values(kinds_of("cut set"), ("cut", "set", 0, True))
        self.assertEqual(found[0], (("cut", 0), None))
        values = values_of(kinds_of("cut set"), ("cut", "cut", 0, True))
        for entry in (("cut", "cut", 0, True), ("set", "cut", 0, True), ("set", "set", 0, True)):
            found = good_values(kinds_of("cut set"), entry)
            keys = [tuple(-1 if value is None else values.index(value) if value in values else 99 for value in pair)
                    for pair in found]
            self.assertEqual(keys, sorted(keys))
            self.assertGreater(len(found), 0)

    def test_they_are_those_by_which_tables_do(self):
        table = judge_filling(BOTH, {}, 2).table
        for entry in entries_of(BOTH):
            good = good_values(BOTH, entry)
            for value, worth in [(table.told[entry], table.told[partner(entry)]), (None, None), *good[:2]]:
                other = table.with_entry(entry, value).with_entry(partner(entry), worth)
                self.assertIs(bool(judge_two(other)), (value, worth) in good)

    def test_errors(self):
        for kinds in NO_KINDS:
            self.assertIsNone(raised(BadKinds, good_values, kinds, None).name)
        for entry in (None, 0, (), ("put", "put", 0), ("put", "put", 4, True), ("put", "put", 0, 1), ["put"] * 4,
                      ("put", "cut", 0, True), ("put", "put", False, False)):
            self.assertEqual(raised(BadTable, good_values, PUT, entry).entry, entry)

    def test_every_list_is_new(self):
        good_values(PUT, SAME).clear()
        self.assertEqual(len(good_values(PUT, SAME)), 2)


class Partners(unittest.TestCase):
    def test_no_entry_is_its_own_partner(self):
        for entry in entries_of(kinds_of("put cut swap")):
            self.assertNotEqual(partner(entry), entry)
            self.assertEqual(partner(entry), turned_entry(entry))
            self.assertEqual(partner(partner(entry)), entry)


class CountTwo(unittest.TestCase):
    def test_of_the_empty_part(self):
        for words in ("put", "cut", "set", "swap", "put cut", "put set", "cut set", "cut drop"):
            kinds = kinds_of(words)
            self.assertEqual(count_two(kinds, {}), len(tables_with(kinds, good_of(kinds), {})))

    def test_of_kinds_for_which_no_table_does(self):
        for words in set(ROWS) - {"put", "cut", "set", "swap"}:
            self.assertEqual(count_two(kinds_of(words), {}), 0)
        self.assertEqual(count_two(kinds_of("put swap"), {}), 0)

    def test_of_many_kinds(self):
        self.assertEqual(count_two(kinds_of("put cut swap"), {}), 786432)
        self.assertEqual(count_two(kinds_of("put cut set swap"), {}), 212336640000)

    def test_of_parts(self):
        random = Random(2)
        for words in ("put", "swap", "put cut", "put set", "cut swap"):
            kinds = kinds_of(words)
            good = good_of(kinds)
            seen = set()
            for many in (1, 1, 2, 2, 3, 4, 6, 14):
                part = drawn_part(random, kinds, good, many)
                found = count_two(kinds, part)
                self.assertEqual(found, len(tables_with(kinds, good, part)))
                seen.add(found)
            self.assertGreater(len(seen), 1)

    def test_of_parts_with_an_entry_and_its_partner(self):
        for (value, worth), many in (((("put", 0), ("put", 1)), 1), ((("put", 1), ("put", 0)), 1),
                                     ((("put", 0), ("put", 0)), 0), ((None, ("put", 0)), 0), ((None, None), 0)):
            self.assertEqual(count_two(PUT, {SAME: value, partner(SAME): worth}), many)
            self.assertEqual(count_two(PUT, {partner(SAME): worth, SAME: value}), many)

    def test_of_whole_tables(self):
        self.assertEqual(count_two(BOTH, natural(BOTH).told), 1)
        self.assertEqual(count_two(BOTH, natural(BOTH).with_entry(("put", "cut", 3, True), None).told), 0)

    def test_parts_that_no_table_has(self):
        for value in (None, ("put", -2), ("put", 2)):
            self.assertEqual(count_two(PUT, {SAME: value}), 0)
        self.assertEqual(count_two(BOTH, {("cut", "put", 3, True): ("cut", 0)}), 0)

    def test_errors(self):
        for kinds in NO_KINDS:
            self.assertIsNone(raised(BadKinds, count_two, kinds, None).name)
        for part in NO_PARTS:
            self.assertIsNone(raised(BadTable, count_two, BOTH, part).entry)
        for part, entry in WRONG_PARTS:
            self.assertEqual(raised(BadTable, count_two, BOTH, part).entry, entry)

    def test_the_first_entry_that_is_wrong(self):
        part = {SAME: None, ("put", "cut", 0, True): 5, ("cut", "cut", 0, True): 5}
        self.assertEqual(raised(BadTable, count_two, BOTH, part).entry, ("put", "cut", 0, True))

    def test_the_part_is_not_changed(self):
        part = {SAME: ("put", 0)}
        count_two(BOTH, part), judge_filling(BOTH, part, 2), judge_filling(BOTH, part, 3)
        self.assertEqual(part, {SAME: ("put", 0)})


class Judge(unittest.TestCase):
    def check(self, kinds, part, many, filled):
        found = judge_filling(kinds, part, many)
        self.assertIs(bool(found), filled)
        self.assertIs(found.shows(kinds, part, many), True)
        if filled:
            self.assertIsInstance(found, Filled)
            self.assertEqual(found.table.kinds, kinds)
            self.assertEqual({entry: found.table.told[entry] for entry in part}, part)
            self.assertTrue(judge_two(found.table) if many == 2 else judge_any(found.table))
        else:
            self.assertIsInstance(found, Barred)
            walk = Walk(self, kinds, many)
            walk.down(part, found.tree)
            self.assertGreater(walk.leaves, 0)
        return found

    def test_for_two_hands_and_the_empty_part(self):
        for words in (*ROWS, *SOMETIMES, "put swap", "put drop", "pull move", "set bb", "aa bb", "put cut swap",
                      "put cut set swap", "put set drop", "cut set drop join"):
            kinds = kinds_of(words)
            with self.subTest(words):
                self.check(kinds, {}, 2, count_two(kinds, {}) > 0)

    def test_for_two_hands_all_kinds_for_which_some_table_does(self):
        for one in ROWS:
            for other in ROWS:
                words = one if one == other else f"{one} {other}"
                turned = one if one == other else f"{other} {one}"
                found = judge_filling(kinds_of(words), {}, 2)
                self.assertIs(bool(found), words in SOMETIMES or turned in SOMETIMES)

    def test_for_any_number_and_the_empty_part(self):
        for words in SOMETIMES:
            with self.subTest(words):
                self.check(kinds_of(words), {}, 3, words in ALWAYS)

    def test_for_any_number_where_no_table_does_for_two_hands(self):
        for words in ("drop", "bb", "put swap", "put drop", "set cc"):
            with self.subTest(words):
                found = self.check(kinds_of(words), {}, 3, False)
                self.assertTrue(found.shows(kinds_of(words), {}, 2))

    def test_the_example(self):
        self.assertTrue(judge_filling(BOTH, {}, 2))
        self.assertFalse(judge_filling(BOTH, {}, 3))

    def test_parts(self):
        random = Random(3)
        seen = {}
        for words in SOMETIMES:
            kinds = kinds_of(words)
            good = good_of(kinds)
            for many in (1, 1, 2, 3, 5):
                part = drawn_part(random, kinds, good, many)
                tables = tables_with(kinds, good, part)
                with self.subTest(words, part=part):
                    self.check(kinds, part, 2, tables != [])
                    agree = any(not some_turn(kinds, told, 4) for told in tables)
                    self.check(kinds, part, 3, agree)
                    seen[tables != [], agree] = seen.get((tables != [], agree), 0) + 1
        self.assertEqual(len(seen), 3)

    def test_each_part_of_one_value(self):
        for words in ("put", "cut", "set", "swap"):
            kinds = kinds_of(words)
            good = good_of(kinds)
            for entry in entries_of(kinds):
                for value in values_for(kinds, entry):
                    tables = tables_with(kinds, good, {entry: value})
                    for many in (2, 3):
                        filled = any(many == 2 or not some_turn(kinds, told, 4) for told in tables)
                        self.assertIs(bool(self.check(kinds, {entry: value}, many, filled)), filled)

    def test_parts_that_bar_all_by_an_entry_and_its_partner(self):
        found = self.check(PUT, {SAME: ("put", 0), partner(SAME): ("put", 0)}, 2, False)
        self.assertEqual(found.tree[0], "two")
        far = ("put", "put", 3, True)
        self.check(PUT, {far: None, partner(far): None}, 2, False)
        self.check(PUT, {far: ("put", 0), partner(far): ("put", -1)}, 3, False)

    def test_parts_that_are_whole_tables(self):
        random = Random(4)
        for words in ("put", "put cut", "put set"):
            kinds = kinds_of(words)
            for many in (0, 1, 4):
                table = bent(random, kinds, many)
                self.check(kinds, table.told, 2, bool(judge_two(table)))
                self.check(kinds, table.told, 3, bool(judge_any(table)))
        table = judge_filling(kinds_of("put set"), {}, 3).table
        self.assertEqual(self.check(table.kinds, table.told, 3, True).table, table)
        table = judge_filling(BOTH, {}, 2).table
        self.assertEqual(self.check(BOTH, table.told, 3, False).tree[0], "any")

    def test_errors(self):
        for call in (judge_filling, Filled(natural(PUT)).shows, Barred(()).shows):
            for kinds in NO_KINDS:
                self.assertIsNone(raised(BadKinds, call, kinds, None, None).name)
            for part in NO_PARTS:
                self.assertIsNone(raised(BadTable, call, BOTH, part, None).entry)
            for part, entry in WRONG_PARTS:
                self.assertEqual(raised(BadTable, call, BOTH, part, None).entry, entry)
            for many in (None, 0, 1, 4, -2, True, "2", 2.0, (2,)):
                raised(BadNumber, call, BOTH, {}, many)


class OfFilled(unittest.TestCase):
    def test_equal_and_bool(self):
        table = natural(BOTH)
        self.assertEqual(Filled(table), Filled(natural(BOTH)))
        self.assertNotEqual(Filled(table), Filled(natural(PUT)))
        self.assertNotEqual(Filled(table), Filled(table.with_entry(("put", "cut", 0, True), None)))
        self.assertNotEqual(Filled(table), Barred(()))
        self.assertNotEqual(Filled(table), table)
        self.assertIs(bool(Filled(table)), True)

    def test_the_table_is_a_copy(self):
        table = natural(PUT)
        found = Filled(table)
        self.assertIsNot(found.table, table)
        table.told[SAME] = None
        self.assertTrue(found.shows(PUT, {}, 2))

    def test_no_table(self):
        for table in (None, 0, {}, PUT):
            self.assertIsNone(raised(BadTable, Filled, table).entry)

    def test_shows(self):
        found = Filled(natural(BOTH))
        self.assertIs(found.shows(BOTH, {}, 2), True)
        self.assertIs(found.shows(BOTH, {}, 3), False)
        self.assertIs(found.shows(BOTH, {("put", "put", 0, True): ("put", 0)}, 2), True)
        self.assertIs(found.shows(BOTH, {("put", "put", 0, True): ("put", 1)}, 2), False)
        self.assertIs(found.shows(BOTH, {("put", "put", 0, True): None}, 2), False)
        self.assertIs(found.shows(PUT, {}, 2), False)
        self.assertIs(Filled(natural(PUT)).shows(PUT, {}, 3), True)
        self.assertIs(Filled(natural(SWAP)).shows(SWAP, {}, 2), False)

    def test_shows_of_a_table_for_other_kinds_by_the_same_names(self):
        cuts, drops = Kinds({"a": ROWS["cut"]}), Kinds({"a": ROWS["drop"]})
        self.assertIs(Filled(natural(cuts)).shows(cuts, {}, 2), True)
        self.assertIs(Filled(natural(cuts)).shows(drops, {}, 2), False)
        self.assertIs(Filled(Table(drops, natural(cuts).told)).shows(cuts, {}, 2), False)

    def test_shows_what_the_table_is_now(self):
        found = Filled(natural(PUT))
        found.table = None
        self.assertIs(found.shows(PUT, {}, 2), False)
        found.table = natural(BOTH)
        self.assertFalse(found.shows(PUT, {}, 2))
        found.table = natural(PUT)
        self.assertTrue(found.shows(PUT, {}, 2))
        for value in (None, ("put", True), ("put", 5), 7):
            found.table.told[SAME] = value
            self.assertIs(found.shows(PUT, {}, 2), False)
        del found.table.told[SAME]
        self.assertIs(found.shows(PUT, {}, 2), False)


class OfBarred(unittest.TestCase):
    PART = {SAME: ("put", 0), partner(SAME): ("put", 0)}
    LEAF = ("two", 0, (("put", 0, 100, 0), ("put", 0, 101, 1)))

    def holds(self, tree, part=None, many=2, kinds=PUT):
        return Barred(tree).shows(kinds, self.PART if part is None else part, many)

    def test_equal_and_bool(self):
        self.assertEqual(Barred(self.LEAF), Barred(("two", 0, self.LEAF[2])))
        self.assertNotEqual(Barred(self.LEAF), Barred(("two", 1, self.LEAF[2])))
        self.assertNotEqual(Barred(self.LEAF), Filled(natural(PUT)))
        self.assertNotEqual(Barred(self.LEAF), self.LEAF)
        self.assertIs(bool(Barred(self.LEAF)), False)

    def test_leaves_of_two(self):
        self.assertIs(self.holds(self.LEAF), True)
        self.assertTrue(self.holds(self.LEAF, many=3))
        self.assertTrue(self.holds(("two", 20, (("put", 20, 100, 5), ("put", 20, 999, 3)))))
        self.assertTrue(self.holds(("two", 3, (("put", 2, 101, 1), ("put", 2, 100, 0)))))

    def test_leaves_of_two_that_are_false_in_one_thing(self):
        one, other = self.LEAF[2]
        for length, changes in (
                (21, (one, other)), (-1, (one, other)), (False, (one, other)), (True, (one, other)),
                (0, (one, ("put", 0, 101, 0))), (0, (one, ("put", 0, 100, 1))), (0, (one, ("put", 0, 99, 1))),
                (0, (("put", 0, -1, 0), other)), (0, (("put", 1, 100, 0), ("put", 1, 101, 1))),
                (0, (("put", -1, 100, 0), ("put", -1, 101, 1))), (0, (one, ("put", 0, 101, True))),
                (0, (("put", False, 100, 0), other)), (0, (("put", 0, None, 0), other)), (0, (one, None)),
                (0, (("cut", 0, None, 0), other)), (1, (one, ("put", 1, 101, 1))), (0, (one,)), (0, (one, other, one))):
            with self.subTest(length=length, changes=changes):
                self.assertIs(self.holds(("two", length, changes)), False)

    def test_leaves_of_two_that_meet_well_or_ask_what_is_not_told(self):
        self.assertIs(self.holds(self.LEAF, {SAME: ("put", 0), partner(SAME): ("put", 1)}), False)
        for part in ({}, {SAME: ("put", 0)}, {partner(SAME): ("put", 0)}, {SAME: None}, {partner(SAME): None}):
            self.assertIs(self.holds(self.LEAF, part), False)

    def test_leaves_of_three(self):
        table = judge_filling(SWAP, {}, 2).table
        tree = judge_filling(SWAP, table.told, 3).tree
        (first, second, last), told = tree[1], table.told
        self.assertIs(self.holds(tree, told, 3, SWAP), True)
        self.assertIs(self.holds(tree, told, 2, SWAP), False)
        self.assertTrue(self.holds(("any", (second, first, last)), told, 3, SWAP))
        up = 60 - max(place for _, place, _, _ in tree[1])
        down = 20 - min(place for _, place, _, _ in tree[1])
        for on in (up, down):
            self.assertTrue(self.holds(("any", tuple((name, place + on, letter, 10 * hand)
                                                     for name, place, letter, hand in tree[1])), told, 3, SWAP))
        for on in (up + 1, down - 1, -20):
            self.assertFalse(self.holds(("any", tuple((name, place + on, letter, hand)
                                                      for name, place, letter, hand in tree[1])), told, 3, SWAP))
        for wrong in ((first, second), (first, second, last, last), [first, second, last], (first, second, None),
                      (first, second, second), (first, second, ("swap", 30, None, True)),
                      (first, second, ("swap", 30, 100, 9)), (first, second, ("cut", 30, None, 9)),
                      (first, second, ("swap", 60, None, 9))):
            self.assertIs(self.holds(("any", wrong), told, 3, SWAP), False)
        for wrong in (("else", tree[1]), ("two", tree[1]), ("any", tree[1], ()), ("any", *tree[1])):
            self.assertIs(self.holds(wrong, told, 3, SWAP), False)

    def test_leaves_of_three_that_ask_what_is_not_told(self):
        table = judge_filling(SWAP, {}, 2).table
        tree = judge_filling(SWAP, table.told, 3).tree
        asked = 0
        for entry in entries_of(SWAP):
            rest = {each: table.told[each] for each in table.told if each != entry}
            asked += not self.holds(tree, rest, 3, SWAP)
        self.assertTrue(4 <= asked <= 6)

    def test_letters_of_leaves_of_three_are_not_asked(self):
        table = natural(PUT)
        three = (("put", 20, 1, 0), ("put", 20, 1, 1), ("put", 20, 1, 2))
        told = {**table.told, SAME: ("put", 1)}
        self.assertEqual(self.holds(("any", three), told, 3), not turns_well(PUT, told, *three))
        self.assertIs(self.holds(("any", three), table.told, 3), False)

    def test_trees_that_are_none(self):
        for tree in ((), ("two",), ("two", 0), ("any",), ("entry",), ("entry", SAME), ("else", 0, ()), [*self.LEAF],
                     ("two", *self.LEAF[1:], 0), None, 0, "two", (self.LEAF,)):
            self.assertIs(self.holds(tree), False)

    def test_an_entry_that_is_told_already(self):
        tree = ("entry", SAME, tuple((value, self.LEAF) for value in values_for(PUT, SAME)))
        self.assertIs(self.holds(tree), False)
        far = ("put", "put", 3, True)
        branches = values_for(PUT, far)
        self.assertTrue(self.holds(("entry", far, tuple((value, self.LEAF) for value in branches))))
        twice = ("entry", far, tuple((value, self.LEAF) for value in branches))
        self.assertFalse(self.holds(("entry", far, tuple((value, twice) for value in branches))))
        other = ("entry", turned_entry(far), tuple((value, self.LEAF) for value in branches))
        self.assertTrue(self.holds(("entry", far, tuple((value, other) for value in branches))))

    def test_entries_and_values_that_are_none(self):
        far = ("put", "put", 3, True)
        branches = [(value, self.LEAF) for value in values_for(PUT, far)]
        self.assertTrue(self.holds(("entry", far, tuple(reversed(branches)))))
        for entry in (("put", "put", 4, True), ("put", "cut", 3, True), ("put", "put", 3, 1), ("put", "put", True, True)):
            self.assertIs(self.holds(("entry", entry, tuple(branches))), False)
        for other in ("else", "two", "any", None):
            self.assertIs(self.holds((other, far, tuple(branches))), False)
        for wrong in (branches[1:], branches[:-1], branches + branches[:1], branches[1:] + branches[1:2],
                      branches[:3] + branches[2:-1], branches[:-1] + [(("put", 3), self.LEAF)],
                      branches[:-1] + [(("put", True), self.LEAF)], branches[:-1] + [(("cut", 2), self.LEAF)],
                      branches[:-1] + [branches[-1][:1]], branches[:-1] + [[*branches[-1]]], []):
            self.assertIs(self.holds(("entry", far, tuple(wrong))), False)
        self.assertIs(self.holds(("entry", far, branches)), False)
        swapped = [(("put", True) if value == ("put", 1) else value, below) for value, below in branches]
        self.assertIs(self.holds(("entry", far, tuple(swapped))), False)

    def changed_trees(self, random, tree):
        """The tree with one leaf, value or entry changed, in some ways."""
        if tree[0] == "two":
            one, other = tree[2]
            return [("two", 21, tree[2]), ("two", tree[1], (one, one)), ("two", -1, tree[2])]
        if tree[0] == "any":
            return [("any", tree[1][:2]), ("any", (tree[1][0], tree[1][0], tree[1][2]))]
        _, entry, branches = tree
        at = random.randrange(len(branches))
        value, below = branches[at]
        changed = [("entry", turned_entry(turned_entry(entry)[:2] + (4, True)), branches),
                   ("entry", entry, branches[:at] + branches[at + 1:]),
                   ("entry", entry, branches[:at] + ((("put", 7), below),) + branches[at + 1:])]
        return changed + [("entry", entry, branches[:at] + ((value, other),) + branches[at + 1:])
                          for other in self.changed_trees(random, below)]

    def test_trees_with_one_thing_changed(self):
        random = Random(5)
        for kinds, many in ((DROP, 2), (SWAP, 3), (BOTH, 3), (kinds_of("cut join"), 3)):
            tree = judge_filling(kinds, {}, many).tree
            self.assertTrue(Barred(tree).shows(kinds, {}, many))
            for _ in range(4):
                for other in self.changed_trees(random, tree):
                    self.assertIs(Barred(other).shows(kinds, {}, many), False)

    def test_trees_of_any_number_do_not_bar_for_two(self):
        for kinds in (SWAP, BOTH):
            found = judge_filling(kinds, {}, 3)
            self.assertIs(found.shows(kinds, {}, 3), True)
            self.assertIs(found.shows(kinds, {}, 2), False)
            self.assertIs(found.shows(PUT, {}, 3), False)

    def test_shows_what_the_tree_is_now(self):
        found = judge_filling(DROP, {}, 2)
        kept = found.tree
        found.tree = self.LEAF
        self.assertFalse(found.shows(DROP, {}, 2))
        found.tree = kept
        self.assertTrue(found.shows(DROP, {}, 2))


class Told(unittest.TestCase):
    def test_a_filled_table_is_a_new_one_each_time(self):
        found = judge_filling(PUT, {}, 2)
        found.table.told.clear()
        self.assertEqual(len(judge_filling(PUT, {}, 2).table.told), 14)
        self.assertIsInstance(judge_filling(PUT, {}, 3).table, Table)


if __name__ == "__main__":
    unittest.main()
