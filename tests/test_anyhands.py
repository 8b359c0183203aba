"""Any number of hands: point [6], and what point [1] says of Agrees and Turns."""

import unittest
from itertools import permutations
from random import Random

from changetables.anyhands import Agrees, Turns, all_orders, in_order, judge_any
from changetables.changes import done_all
from changetables.errors import BadChange, BadNumber, BadTable, BadText, CannotDo, SameHand
from changetables.tables import natural
from changetables.twohands import Splits, judge_two
from reference import (ALWAYS, ROWS, SOMETIMES, bent, changes_to, end_in, good_tables, kinds_of, raised,
                       shortest_split, some_turn)

PUTS, CUTS, BOTH = natural(kinds_of("put")), natural(kinds_of("cut")), natural(kinds_of("put cut"))
SWAPS = good_tables(Random(1), kinds_of("swap"), 1)[0]
BENT = PUTS.with_entry(("put", "put", 0, False), ("put", 0))
THREE = [("put", 0, 7, 0), ("put", 0, 8, 1), ("put", 1, 9, 2)]
NO_TABLES = [None, 0, {}, "table", PUTS.told, PUTS.kinds]


def drawn(random, kinds, many):
    """A text and changes of different hands and with different letters that can be done to it, drawn."""
    length = random.randrange(2, 8)
    hands = random.sample(range(9), many)
    return tuple(random.sample(range(40), length)), [
        random.choice(changes_to(kinds, length, 100 + hand, hand)) for hand in hands]


class InOrder(unittest.TestCase):
    def test_the_example(self):
        for order in permutations(range(3)):
            self.assertEqual(in_order(PUTS, (1,), THREE, order), (7, 8, 1, 9))

    def test_changes_taken_behind_one_another_by_hand(self):
        changes = [("cut", 1, None, 0), ("put", 2, 50, 1), ("cut", 2, None, 2)]
        for order in permutations(range(3)):
            first, second, last = [changes[number] for number in order]
            after = BOTH.behind(second, first)
            forms = [first, after, BOTH.behind(BOTH.behind(last, first), after)]
            self.assertEqual(done_all(BOTH.kinds, (4, 5, 6, 7), forms), (4, 50, 7))
            self.assertEqual(in_order(BOTH, (4, 5, 6, 7), changes, order), (4, 50, 7))

    def test_drawn_changes(self):
        random = Random(2)
        for words in ("put", "cut", "swap", "put cut", "set join", "put cut swap", "cut drop bb"):
            kinds = kinds_of(words)
            for _ in range(30):
                table = bent(random, kinds, random.choice((0, 2, 9)))
                text, changes = drawn(random, kinds, random.randrange(6))
                order = tuple(random.sample(range(len(changes)), len(changes)))
                self.assertEqual(in_order(table, text, changes, order),
                                 end_in(kinds, table.told, text, changes, order))
                self.assertEqual(in_order(table, text, tuple(changes), order),
                                 end_in(kinds, table.told, text, changes, order))

    def test_a_form_that_cannot_be_done(self):
        for shift, expected in ((-1, None), (0, (9, 1)), (1, (1, 9)), (2, None)):
            table = BOTH.with_entry(("put", "cut", 0, False), ("put", shift))
            changes = [("cut", 0, None, 0), ("put", 0, 9, 1)]
            self.assertEqual(in_order(table, (0, 1), changes, (0, 1)), expected)
            self.assertEqual(in_order(table, (0, 1), changes, (1, 0)), (9, 1))

    def test_a_form_that_cannot_be_done_ahead_of_others(self):
        table = PUTS.with_entry(("put", "put", 0, False), ("put", 2))
        changes = [("put", 0, 7, 0), ("put", 0, 8, 1), ("put", 0, 9, 2)]
        self.assertIsNone(in_order(table, (), changes, (0, 1, 2)))
        self.assertIsNone(in_order(table, (), changes, (0, 2, 1)))
        self.assertEqual(in_order(table, (), changes, (2, 1, 0)), (7, 8, 9))

    def test_forms_that_are_none(self):
        changes = [("cut", 1, None, 0), ("cut", 1, None, 1), ("cut", 1, None, 2), ("cut", 2, None, 3)]
        for order in permutations(range(4)):
            self.assertEqual(in_order(CUTS, (4, 5, 6, 7), changes, order), (4, 7))

    def test_letters_that_are_the_same(self):
        self.assertIsNone(in_order(PUTS, (), [("put", 0, 7, 0), ("put", 0, 7, 1)], (0, 1)))

    def test_no_changes_and_one(self):
        self.assertEqual(in_order(PUTS, (4, 5), [], ()), (4, 5))
        self.assertEqual(in_order(PUTS, (4, 5), (), ()), (4, 5))
        self.assertEqual(in_order(PUTS, (4, 5), [("put", 2, 9, 0)], (0,)), (4, 5, 9))

    def test_more_than_five_changes(self):
        changes = [("put", 0, 100 + hand, hand) for hand in range(8)]
        self.assertEqual(in_order(PUTS, (1,), changes, (7, 6, 5, 4, 3, 2, 1, 0)), (*range(100, 108), 1))

    def test_the_arguments_are_not_changed(self):
        changes = list(THREE)
        in_order(PUTS, (1,), changes, (2, 0, 1))
        all_orders(PUTS, (1,), changes)
        self.assertEqual(changes, THREE)

    def test_orders_that_are_none(self):
        for order in ((), (0,), (0, 1), (0, 1, 1), (0, 1, 3), (1, 2, 3), (-1, 0, 1), (0, 1, 2, 3), [0, 1, 2], "012",
                      None, 0, (0, True, 2), (False, 1, 2), (0, 1, 2.0), (0, 1, None), ("0", "1", "2")):
            with self.subTest(order=order):
                raised(BadNumber, in_order, PUTS, (1,), THREE, order)


class Errors(unittest.TestCase):
    def check(self, call):
        one, other = ("put", 0, 7, 0), ("put", 0, 8, 1)
        for table in NO_TABLES:
            self.assertIsNone(raised(BadTable, call, table, None, None).entry)
        for text in (None, [], (1, 1), (True,), "1"):
            raised(BadText, call, PUTS, text, None)
        for changes in (None, 1, {}, "put", {0: one}):
            self.assertIsNone(raised(BadChange, call, PUTS, (), changes).place)
        for change in (None, 0, (), ("cut", 0, None, 2), ("put", 0, None, 2), ("put", 0, True, 2), ("put", 0, 9, -1),
                       ("put", False, 9, 2), ("put", 0, 9, True), ["put", 0, 9, 2]):
            self.assertEqual(raised(BadChange, call, PUTS, (), [change]).place, 0)
            self.assertEqual(raised(BadChange, call, PUTS, (), (one, one, change, change)).place, 2)
        raised(SameHand, call, PUTS, (), [("put", 5, 7, 0), other, ("put", 0, 9, 0)])
        self.assertEqual(raised(CannotDo, call, PUTS, (), [one, ("put", 1, 9, 2), ("put", -1, 6, 3)]).place, 1)
        self.assertEqual(raised(CannotDo, call, PUTS, (8,), [one, other]).place, 1)
        self.assertEqual(raised(CannotDo, call, CUTS, (8,), [("cut", 1, None, 0)]).place, 0)

    def test_of_in_order(self):
        self.check(lambda table, text, changes: in_order(table, text, changes, None))

    def test_of_all_orders(self):
        self.check(all_orders)
        six = [("put", 0, 10 + hand, hand) for hand in range(6)]
        for changes in (six, tuple(six), [None] * 6):
            self.assertIsNone(raised(BadChange, all_orders, PUTS, (), changes).place)
        raised(BadText, all_orders, PUTS, (1, 1), six)

    def test_of_judge_any(self):
        for table in NO_TABLES:
            self.assertIsNone(raised(BadTable, judge_any, table).entry)


class AllOrders(unittest.TestCase):
    def test_drawn_changes(self):
        random = Random(3)
        for words in ("put", "swap", "put cut", "set join", "put cut swap"):
            kinds = kinds_of(words)
            for many in range(6):
                table = bent(random, kinds, random.choice((0, 2, 9)))
                text, changes = drawn(random, kinds, many)
                found = all_orders(table, text, changes)
                orders = list(permutations(range(many)))
                self.assertEqual(list(found), orders)
                for order in orders:
                    self.assertEqual(found[order], end_in(kinds, table.told, text, changes, order))
                    self.assertEqual(found[order], in_order(table, text, changes, order))

    def test_no_changes(self):
        self.assertEqual(all_orders(PUTS, (4,), ()), {(): (4,)})

    def test_every_dict_is_new(self):
        found = all_orders(PUTS, (1,), THREE)
        found.clear()
        self.assertEqual(len(all_orders(PUTS, (1,), THREE)), 6)


class Judge(unittest.TestCase):
    def check(self, table, splits, turns):
        found = judge_any(table)
        self.assertIs(found.shows(table), True)
        self.assertIs(bool(found), not splits and not turns)
        self.assertIsInstance(found, Splits if splits else Turns if turns else Agrees)
        if splits:
            self.assertEqual(len(found.text), shortest_split(table.kinds, table.told, 9))
        elif turns:
            one, other = [end_in(table.kinds, table.told, found.text, found.changes, order)
                          for order in (found.one, found.other)]
            self.assertTrue(one is None or one != other)

    def test_the_example(self):
        self.assertIs(bool(judge_any(PUTS)), True)
        self.assertIs(bool(judge_any(natural(kinds_of("swap")))), False)

    def test_natural_tables(self):
        for words in (*ROWS, "put cut", "cut drop", "put cut swap"):
            table = natural(kinds_of(words))
            splits = shortest_split(table.kinds, table.told, 9) is not None
            with self.subTest(words):
                self.check(table, splits, not splits and some_turn(table.kinds, table.told, 4))

    def test_tables_by_which_all_two_meet_well(self):
        random = Random(4)
        found = {True: 0, False: 0}
        for words in SOMETIMES:
            for table in good_tables(random, kinds_of(words), 4):
                with self.subTest(words, told=table.told):
                    turns = some_turn(table.kinds, table.told, 5)
                    self.check(table, False, turns)
                    found[turns] += 1
        self.assertGreater(min(found.values()), 5)

    def test_three_changes_at_places_up_to_eight_apart(self):
        random = Random(5)
        for words in ("put", "cut", "set", "swap", "cut set", "put set"):
            for table in good_tables(random, kinds_of(words), 1):
                self.assertIs(bool(judge_any(table)), not some_turn(table.kinds, table.told, 8))

    def test_tables_of_three_and_four_kinds(self):
        random = Random(6)
        for words in ("put cut set", "put cut swap", "cut set join", "cut drop join", "put cut set swap"):
            for table in good_tables(random, kinds_of(words), 3):
                with self.subTest(words):
                    self.check(table, False, some_turn(table.kinds, table.told, 2))

    def test_three_kinds_that_agree(self):
        table, = [table for table in good_tables(Random(7), kinds_of("cut set drop"), 200) if judge_any(table)][:1]
        self.assertFalse(some_turn(table.kinds, table.told, 5))
        self.assertIs(judge_any(table).shows(table), True)

    def test_tables_by_which_some_two_do_not_meet_well(self):
        random = Random(8)
        for words in ("put", "cut", "swap", "put cut", "put set", "put cut set"):
            for many in (1, 2, 5):
                table = bent(random, kinds_of(words), many)
                splits = shortest_split(table.kinds, table.told, 9) is not None
                if splits:
                    self.check(table, True, False)
                    self.assertEqual(judge_any(table), judge_two(table))

    def test_against_all_orders_of_changes_to_drawn_texts(self):
        random = Random(9)
        for words in ALWAYS:
            for table in [table for table in good_tables(random, kinds_of(words), 10) if judge_any(table)][:3]:
                for many in (2, 3, 4, 5, 5):
                    text, changes = drawn(random, table.kinds, many)
                    ends = all_orders(table, text, changes)
                    self.assertIsNotNone(ends[tuple(range(many))])
                    self.assertEqual(len(set(ends.values())), 1)

    def test_tables_that_turn_do_not_agree_on_drawn_texts(self):
        # What does not turn well is seen on some texts, if many are drawn.
        random = Random(10)
        for words in ("swap", "put cut", "cut join", "cut swap", "set join", "set swap"):
            for table in good_tables(random, kinds_of(words), 2):
                self.assertIsInstance(judge_any(table), Turns)
                ends = [all_orders(table, *drawn(random, table.kinds, 4)).values() for _ in range(400)]
                self.assertGreater(max(len(set(each)) for each in ends), 1)


class OfAgrees(unittest.TestCase):
    def test_equal_and_bool(self):
        self.assertEqual(Agrees(), Agrees())
        self.assertNotEqual(Agrees(), Splits((), None, None))
        self.assertNotEqual(Agrees(), None)
        self.assertIs(bool(Agrees()), True)

    def test_shows(self):
        self.assertIs(Agrees().shows(PUTS), True)
        self.assertIs(Agrees().shows(CUTS), True)
        self.assertIs(Agrees().shows(BENT), False)
        self.assertIs(Agrees().shows(BOTH), False)
        self.assertIs(Agrees().shows(SWAPS), False)
        for table in NO_TABLES:
            self.assertIsNone(raised(BadTable, Agrees().shows, table).entry)


class OfTurns(unittest.TestCase):
    SAME = [("put", 0, 7, 0), ("put", 0, 8, 1), ("put", 0, 9, 2)]

    def test_equal_and_bool(self):
        made = ((1,), self.SAME, (0, 1, 2), (1, 0, 2))
        self.assertEqual(Turns(*made), Turns((1,), tuple(self.SAME), (0, 1, 2), (1, 0, 2)))
        for at, value in ((0, (2,)), (1, self.SAME[:2]), (2, (0, 2, 1)), (3, (0, 2, 1))):
            self.assertNotEqual(Turns(*made), Turns(*made[:at], value, *made[at + 1:]))
        self.assertNotEqual(Turns(*made), Agrees())
        self.assertNotEqual(Turns(*made), Splits((1,), *made[1][:2]))
        self.assertIs(bool(Turns(*made)), False)

    def test_the_list_is_a_new_one(self):
        changes = list(self.SAME)
        for given in (changes, tuple(changes)):
            found = Turns((), given, (0, 1, 2), (1, 0, 2))
            self.assertEqual(found.changes, changes)
            self.assertIsInstance(found.changes, list)
            self.assertIsNot(found.changes, changes)

    def test_shows_takes_any_three_that_do_not_make_the_same(self):
        self.assertTrue(Turns((), self.SAME, (0, 1, 2), (2, 1, 0)).shows(BENT))
        self.assertTrue(Turns((3, 4, 5), [("put", 2, -7, 6), ("put", 2, 8, 1), ("put", 2, 9, 2)],
                              (0, 1, 2), (2, 1, 0)).shows(BENT))
        self.assertFalse(Turns((), self.SAME, (0, 1, 2), (2, 1, 0)).shows(PUTS))

    def test_two_orders_that_are_the_same(self):
        # Behind another one at the same place it goes 2 on, which needs letters there.
        table = PUTS.with_entry(("put", "put", 0, False), ("put", 2))
        self.assertIsNone(in_order(table, (), self.SAME, (0, 1, 2)))
        self.assertTrue(Turns((), self.SAME, (0, 1, 2), (0, 1, 2)).shows(table))
        self.assertTrue(Turns((), self.SAME, (0, 1, 2), (2, 1, 0)).shows(table))
        self.assertTrue(Turns((), self.SAME, (2, 1, 0), (0, 1, 2)).shows(table))
        self.assertFalse(Turns((), self.SAME, (2, 1, 0), (2, 1, 0)).shows(table))
        self.assertFalse(Turns((), self.SAME, (0, 1, 2), (0, 1, 2)).shows(BENT))

    def test_shows_what_is_false_in_one_thing(self):
        one, other, last = self.SAME
        good = ((1,), self.SAME, (0, 1, 2), (2, 1, 0))
        self.assertTrue(Turns(*good).shows(BENT))
        for at, value in (
                (0, (1, 1)), (0, (True,)), (0, [1]), (0, (7,)), (0, (9,)), (1, []), (1, [one, other]),
                (1, [one, other, last, ("put", 0, 6, 3)]), (1, [one, other, None]), (1, [one, one, last]),
                (1, [one, other, ("put", 0, 9, 1)]), (1, [one, other, ("put", 0, 8, 2)]),
                (1, [one, other, ("put", 2, 9, 2)]), (1, [one, other, ("put", -1, 9, 2)]),
                (1, [one, other, ("put", False, 9, 2)]), (1, [one, other, ("put", 0, True, 2)]),
                (1, [("put", 0, 7, False), other, last]), (1, [one, ("put", 0, 8, True), last]),
                (1, [one, other, ("cut", 0, None, 2)]), (2, (0, 1)), (2, (0, 1, 1)), (2, (0, 1, 3)), (2, (0, 1, 2, 2)),
                (2, (0, 1, -1)), (2, (0, True, 2)), (3, (2, 1, False)), (3, (2, 1)), (3, (3, 2, 1)), (3, (0, 1, 2))):
            with self.subTest(at=at, value=value):
                self.assertIs(Turns(*good[:at], value, *good[at + 1:]).shows(BENT), False)

    def test_shows_what_the_attributes_are_now(self):
        found = judge_any(SWAPS)
        self.assertTrue(found.shows(SWAPS))
        kept = found.changes.pop()
        self.assertFalse(found.shows(SWAPS))
        found.changes.append(kept)
        self.assertTrue(found.shows(SWAPS))
        found.one = found.other
        self.assertFalse(found.shows(SWAPS))

    def test_longer_texts(self):
        found = judge_any(SWAPS)
        found.text = (*found.text, 90, 91, 92)
        self.assertTrue(found.shows(SWAPS))
        found.text = found.text[:2]
        self.assertFalse(found.shows(SWAPS))

    def test_no_tables(self):
        for table in NO_TABLES:
            self.assertIsNone(raised(BadTable, judge_any(SWAPS).shows, table).entry)


if __name__ == "__main__":
    unittest.main()
