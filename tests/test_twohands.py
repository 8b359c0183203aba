"""Two hands: point [5], and what point [1] says of Meets and Splits."""

import unittest
from random import Random

from changetables.errors import BadChange, BadTable, BadText, CannotDo, SameHand
from changetables.tables import natural
from changetables.twohands import Meets, Splits, judge_two, meet_well
from reference import (ROWS, SOMETIMES, all_twos, bent, end_of_both, entries_of, good_tables, kinds_of, letter_of,
                       raised, shortest_split)

PUTS, CUTS, BOTH = natural(kinds_of("put")), natural(kinds_of("cut")), natural(kinds_of("put cut"))
BENT = PUTS.with_entry(("put", "put", 0, False), ("put", 0))
# Of two changes at the same place both take the letter ahead, too: there has to be one.
AHEAD = CUTS.with_entry(("cut", "cut", 0, True), ("cut", -1)).with_entry(("cut", "cut", 0, False), ("cut", -1))
NO_TABLES = [None, 0, {}, "table", PUTS.told, PUTS.kinds]


def ends_of(table):
    """The ends of a table whose changes all meet well, ascending."""
    kinds, names = table.kinds, table.kinds.names()
    ends = {}
    for one in names:
        for other in names:
            for distance in range(-7, 8):
                first = (one, 8 + distance if distance >= 0 else 8, letter_of(kinds, one, 100), 0)
                second = (other, 8 if distance >= 0 else 8 - distance, letter_of(kinds, other, 101), 1)
                ends[one, other, distance] = end_of_both(kinds, table.told, tuple(range(20)), first, second)
    return ends


class Judge(unittest.TestCase):
    def check(self, table, longest=9):
        """Hold the answer against doing all pairs of changes to all short texts."""
        found = judge_two(table)
        shortest = shortest_split(table.kinds, table.told, longest)
        self.assertIs(found.shows(table), True)
        self.assertIs(bool(found), shortest is None)
        if shortest is None:
            self.assertIsInstance(found, Meets)
            self.assertEqual(found.ends, ends_of(table))
            self.assertEqual(list(found.ends), sorted(found.ends))
        else:
            self.assertIsInstance(found, Splits)
            self.assertEqual(len(found.text), shortest)
            self.assertEqual(len(set(found.text)), shortest)
            self.assertLess(found.one[3], found.other[3])
            self.assertFalse(meet_well(table, found.text, found.one, found.other))
            self.assertFalse(meet_well(table, found.text, found.other, found.one))

    def test_natural_tables_of_each_kind(self):
        for name in ROWS:
            with self.subTest(name):
                self.check(natural(kinds_of(name)))

    def test_natural_tables_of_two_and_three_kinds(self):
        for words in ("put cut", "put swap", "set join", "cut drop", "aa bb", "put cut swap", "cut set drop",
                      "cut drop join", "move pull cc"):
            with self.subTest(words):
                self.check(natural(kinds_of(words)))

    def test_natural_tables_that_do(self):
        for words in ("put", "cut", "put cut"):
            with self.subTest(words):
                self.assertTrue(judge_two(natural(kinds_of(words))))

    def test_other_tables_that_do(self):
        random = Random(1)
        for words in SOMETIMES:
            for table in good_tables(random, kinds_of(words), 2):
                with self.subTest(words):
                    self.assertTrue(judge_two(table))
                    self.check(table)

    def test_tables_of_three_and_four_kinds_that_do(self):
        random = Random(2)
        for words in ("put cut swap", "cut set join", "cut drop join"):
            for table in good_tables(random, kinds_of(words), 1):
                with self.subTest(words):
                    self.assertTrue(judge_two(table))
                    self.check(table)
        table, = good_tables(random, kinds_of("put cut set swap"), 1)
        self.assertEqual(judge_two(table).ends, ends_of(table))

    def test_tables_with_a_few_other_entries(self):
        random = Random(3)
        for words in ("put", "cut", "set", "swap", "put cut", "put set", "cut set", "put cut set", "join aa"):
            for many in (1, 1, 1, 2, 4):
                table = bent(random, kinds_of(words), many)
                with self.subTest(words, told=table.told):
                    self.check(table)

    def test_each_entry_of_a_table_that_does(self):
        random = Random(4)
        table, = good_tables(random, kinds_of("put cut"), 1)
        for entry in entries_of(table.kinds):
            value = random.choice([None, ("cut", -2), ("cut", -1), ("cut", 1), ("cut", 2)])
            if value != table.told[entry]:
                with self.subTest(entry=entry, value=value):
                    self.check(table.with_entry(entry, value))

    def test_a_shortest_text_where_only_far_changes_do_not_meet_well(self):
        for words, shortest in (("put", 3), ("cut", 4)):
            table = natural(kinds_of(words))
            for gap in (-3, 3):
                for less in (False, True):
                    split = judge_two(table.with_entry((words, words, gap, less), None))
                    self.assertEqual(len(split.text), shortest)

    def test_the_example(self):
        self.assertEqual(judge_two(CUTS).ends["cut", "cut", 1][:9], (0, 1, 2, 3, 4, 5, 6, 7, 10))
        self.assertEqual(judge_two(BENT).text, ())

    def test_the_ends_of_far_changes_are_told_at_the_farthest_gaps(self):
        ends = judge_two(BOTH).ends
        self.assertEqual(len(ends), 60)
        self.assertEqual(ends["put", "cut", 7], (*range(8), *range(9, 15), 100, *range(15, 20)))
        self.assertEqual(ends["put", "cut", -7], (*range(8), 100, *range(8, 15), *range(16, 20)))
        self.assertEqual(ends["put", "put", 0], (*range(8), 100, 101, *range(8, 20)))
        self.assertEqual(ends["cut", "cut", 0], (*range(8), *range(9, 20)))

    def test_no_tables(self):
        for table in NO_TABLES:
            self.assertIsNone(raised(BadTable, judge_two, table).entry)

    def test_the_table_is_not_changed_and_every_dict_is_new(self):
        before = dict(BOTH.told)
        found = judge_two(BOTH)
        found.ends.clear()
        self.assertEqual(BOTH.told, before)
        self.assertEqual(len(judge_two(BOTH).ends), 60)


class OfMeets(unittest.TestCase):
    def test_equal_and_bool(self):
        ends = judge_two(PUTS).ends
        self.assertEqual(Meets(ends), Meets(dict(ends)))
        self.assertNotEqual(Meets(ends), Meets({}))
        self.assertNotEqual(Meets(ends), Meets({**ends, ("put", "put", 0): ()}))
        self.assertNotEqual(Meets({}), Splits((), None, None))
        self.assertNotEqual(Meets({}), {})
        self.assertIs(bool(Meets({})), True)

    def test_the_dict_is_a_new_one(self):
        ends = ends_of(PUTS)
        found = Meets(ends)
        self.assertIsNot(found.ends, ends)
        ends.clear()
        self.assertTrue(found.shows(PUTS))

    def test_shows_what_the_ends_are_now(self):
        found = judge_two(BOTH)
        kept = found.ends["put", "cut", 2]
        found.ends["put", "cut", 2] = kept[:-1]
        self.assertIs(found.shows(BOTH), False)
        found.ends["put", "cut", 2] = kept
        self.assertIs(found.shows(BOTH), True)
        found.ends = {}
        self.assertIs(found.shows(BOTH), False)

    def test_shows_with_a_key_left_out_changed_or_put_in(self):
        ends = judge_two(PUTS).ends
        for key in (("put", "put", -7), ("put", "put", 0), ("put", "put", 7)):
            self.assertFalse(Meets({each: ends[each] for each in ends if each != key}).shows(PUTS))
            self.assertFalse(Meets({(*each[:2], each[2] + 20) if each == key else each: ends[each]
                                    for each in ends}).shows(PUTS))
            self.assertFalse(Meets({**ends, key: (*ends[key], 5)}).shows(PUTS))
            self.assertFalse(Meets({**ends, key: ()}).shows(PUTS))
        self.assertFalse(Meets({**ends, ("put", "put", 8): ends["put", "put", 7]}).shows(PUTS))
        self.assertFalse(Meets({**ends, ("put", "cut", 0): ends["put", "put", 0]}).shows(PUTS))

    def test_shows_with_the_keys_in_another_order(self):
        ends = judge_two(PUTS).ends
        self.assertFalse(Meets({key: ends[key] for key in reversed(list(ends))}).shows(PUTS))

    def test_shows_with_booleans(self):
        ends = judge_two(PUTS).ends
        for key in ends:
            self.assertFalse(Meets({**ends, key: (False, True, *ends[key][2:])}).shows(PUTS))
        self.assertFalse(Meets({(*key[:2], True) if key[2] == 1 else key: ends[key] for key in ends}).shows(PUTS))
        self.assertFalse(Meets({(*key[:2], False) if key[2] == 0 else key: ends[key] for key in ends}).shows(PUTS))

    def test_shows_of_a_table_by_which_not_all_two_meet_well(self):
        self.assertFalse(Meets(judge_two(PUTS).ends).shows(BENT))
        for gap in (-3, 0, 3):
            table = PUTS.with_entry(("put", "put", gap, True), None)
            self.assertFalse(Meets(ends_of(table)).shows(table))

    def test_shows_of_a_table_that_needs_letters_around(self):
        ends = ends_of(AHEAD)
        self.assertNotIn(None, ends.values())
        self.assertFalse(Meets(ends).shows(AHEAD))

    def test_shows_of_other_kinds_and_of_no_table(self):
        self.assertFalse(judge_two(PUTS).shows(CUTS))
        for table in NO_TABLES:
            self.assertIsNone(raised(BadTable, judge_two(PUTS).shows, table).entry)


class OfSplits(unittest.TestCase):
    ONE, OTHER = ("put", 0, 100, 0), ("put", 0, 101, 1)

    def test_equal_and_bool(self):
        made = (("put", 0, 5, 0), ("cut", 0, None, 1))
        self.assertEqual(Splits((1,), *made), Splits((1,), *made))
        self.assertNotEqual(Splits((1,), *made), Splits((2,), *made))
        self.assertNotEqual(Splits((1,), *made), Splits((1,), made[0], made[0]))
        self.assertNotEqual(Splits((1,), *made), Splits((1,), made[1], made[1]))
        self.assertNotEqual(Splits((1,), *made), Meets({}))
        self.assertNotEqual(Splits((1,), *made), ((1,), *made))
        self.assertIs(bool(Splits((1,), *made)), False)

    def test_shows_takes_longer_texts_other_letters_and_hands(self):
        self.assertTrue(Splits((), self.ONE, self.OTHER).shows(BENT))
        self.assertTrue(Splits((9, 8, 7), ("put", 2, -5, 3), ("put", 2, 0, 1000)).shows(BENT))
        self.assertIs(Splits((9, 8, 7), ("put", 3, 100, 0), ("put", 3, 101, 1)).shows(BENT), True)

    def test_shows_what_is_false_in_one_thing(self):
        for text, one, other in (
                ((), self.OTHER, self.ONE), ((), self.ONE, ("put", 0, 101, 0)), ((), self.ONE, ("put", 0, 100, 1)),
                ((), ("put", 1, 100, 0), ("put", 1, 101, 1)), ((), ("put", -1, 100, 0), ("put", -1, 101, 1)),
                ((3, 3), self.ONE, self.OTHER), ((100,), self.ONE, self.OTHER), ((101,), self.ONE, self.OTHER),
                ((True, 2), self.ONE, self.OTHER), ((), ("put", False, 100, 0), self.OTHER),
                ((), ("put", 0, True, 0), self.OTHER), ((), ("put", 0, 100, False), self.OTHER),
                ((), self.ONE, ("put", 0, 101, True)), ((), ("cut", 0, None, 0), self.OTHER),
                ((), ("put", 0, None, 0), self.OTHER), ((), ("put", 0, 100, -1), self.OTHER), ((), None, self.OTHER),
                ((), self.ONE, None), ([], self.ONE, self.OTHER), ((1,), self.ONE, ("put", 1, 101, 1))):
            with self.subTest(text=text, one=one, other=other):
                self.assertIs(Splits(text, one, other).shows(BENT), False)
        self.assertFalse(Splits((), self.ONE, self.OTHER).shows(PUTS))

    def test_shows_of_changes_without_letters(self):
        table = CUTS.with_entry(("cut", "cut", 0, True), ("cut", 0))
        one, other = ("cut", 0, None, 0), ("cut", 0, None, 1)
        self.assertTrue(Splits((4,), one, other).shows(table))
        self.assertTrue(Splits((4, 5), one, other).shows(table))
        self.assertFalse(Splits((), one, other).shows(table))
        self.assertFalse(Splits((4, 4), one, other).shows(table))
        self.assertFalse(Splits((4,), ("cut", 0, 100, 0), other).shows(table))

    def test_shows_what_the_attributes_are_now(self):
        found = judge_two(BENT)
        found.text = (1, 2, 3)
        self.assertTrue(found.shows(BENT))
        found.one, found.other = found.other, found.one
        self.assertFalse(found.shows(BENT))

    def test_no_tables(self):
        for table in NO_TABLES:
            self.assertIsNone(raised(BadTable, judge_two(BENT).shows, table).entry)
            self.assertIsNone(raised(BadTable, Splits([], None, None).shows, table).entry)


class MeetWell(unittest.TestCase):
    def test_against_both_ways(self):
        random = Random(5)
        for words in ("put", "swap", "put cut", "set join"):
            table = bent(random, kinds_of(words), 3)
            for length in (0, 1, 2, 3, 6):
                text = tuple(range(length))
                for one, other in all_twos(table.kinds, length):
                    expected = end_of_both(table.kinds, table.told, text, one, other) is not None
                    self.assertIs(meet_well(table, text, one, other), expected)
                    self.assertIs(meet_well(table, text, other, one), expected)

    def test_forms_that_cannot_be_done(self):
        one, other = ("cut", 0, None, 0), ("cut", 1, None, 1)
        self.assertTrue(meet_well(CUTS, (1, 2), one, other))
        for entry in (("cut", "cut", 1, False), ("cut", "cut", -1, True)):
            for shift in (-2, 1, 2):
                self.assertFalse(meet_well(CUTS.with_entry(entry, ("cut", shift)), (1, 2), one, other))

    def test_it_may_be_told_only_by_letters_around(self):
        one, other = ("cut", 0, None, 0), ("cut", 0, None, 1)
        self.assertFalse(meet_well(AHEAD, (1, 2), one, other))
        self.assertTrue(meet_well(AHEAD, (0, 1, 2), ("cut", 1, None, 0), ("cut", 1, None, 1)))
        self.assertFalse(judge_two(AHEAD))
        self.assertEqual(len(judge_two(AHEAD).text), 1)

    def test_letters_that_are_the_same(self):
        self.assertFalse(meet_well(PUTS, (), ("put", 0, 9, 0), ("put", 0, 9, 1)))

    def test_errors(self):
        one, other = ("put", 0, 9, 0), ("put", 0, 8, 1)
        self.assertIsNone(raised(BadTable, meet_well, None, [], None, None).entry)
        for text in (None, [], (1, 1), (True,), ("a",)):
            raised(BadText, meet_well, PUTS, text, None, None)
        for change in (None, 0, (), ("cut", 0, None, 0), ("put", 0, None, 0), ("put", True, 9, 0), ("put", 0, 9, -1)):
            self.assertEqual(raised(BadChange, meet_well, PUTS, (), change, change).place, 0)
            self.assertEqual(raised(BadChange, meet_well, PUTS, (), change, one).place, 0)
            self.assertEqual(raised(BadChange, meet_well, PUTS, (), one, change).place, 1)
            self.assertEqual(raised(BadChange, meet_well, PUTS, (), ("put", 9, 9, 0), change).place, 1)
        raised(SameHand, meet_well, PUTS, (), ("put", 9, 9, 1), other)
        self.assertEqual(raised(CannotDo, meet_well, PUTS, (), ("put", 1, 9, 0), ("put", 1, 8, 1)).place, 0)
        self.assertEqual(raised(CannotDo, meet_well, PUTS, (), one, ("put", -1, 8, 1)).place, 1)
        self.assertEqual(raised(CannotDo, meet_well, PUTS, (8,), one, other).place, 1)
        self.assertEqual(raised(CannotDo, meet_well, PUTS, (9,), one, other).place, 0)


if __name__ == "__main__":
    unittest.main()
