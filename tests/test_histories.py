"""Histories: point [22]."""

import unittest
from itertools import permutations

from changetables.anyhands import judge_any
from changetables.errors import BadNumber, BadTable, BadText
from changetables.histories import PartedEnd, SameEnd, done_in, judge_history, orders_of
from changetables.houses import BadHistory
from changetables.tables import natural
from plain import draw_history, history_end, seeded
from reference import ALWAYS, SOMETIMES, bent, good_tables, kinds_of, raised
from test_houses import BENT, BOTH, FAR, NO_TABLES, NO_TEXTS, PUTS

A, B, C = (("put", 0, 7, 0), ()), (("put", 0, 8, 1), ()), (("put", 2, 9, 0), (0, 1))
STORY = [A, B, C]
NO_EVENTS = [None, 0, (), "event", [("put", 0, 9, 2), ()], (("put", 0, 9, 2),), (("put", 0, 9, 2), (), ()), (None, ()),
             (("put", 0, 9, 2), None), (("put", 0, 9, 2), []), (("put", 0, 9, 2), {}), (["put", 0, 9, 2], ()),
             (("put", 0, None, 2), ()), (("cut", 0, 9, 2), ()), (("pot", 0, 9, 2), ()), (("put", 0, 9, -1), ()),
             (("put", 0, 9, 2), (2,)), (("put", 0, 9, 2), (-1,)), (("put", 0, 9, 2), (0, 0)), (("put", 0, 9, 2), (1, 0)),
             (("put", 0, 9, 2), (True,)), (("put", 0, 9, 2), ("0",)), (("put", 0, 9, 2), (None,)),
             (("put", 0, 9, 2), 0)]


def all_orders_of(history):
    """All orders, ascending, out of all that there are."""
    return [order for order in permutations(range(len(history)))
            if all(order.index(early) < order.index(number)
                   for number, event in enumerate(history) for early in event[1])]


def tables_for(random):
    """Tables that do, for two hands or any number, and others."""
    tables = [natural(kinds_of(words)) for words in ("put", "put cut", "put cut swap set", "drop join")]
    tables += [bent(random, table.kinds, many) for table in tables for many in (1, 4, 12)]
    return tables + [table for words in SOMETIMES for table in good_tables(random, kinds_of(words), 1)]


class Judge(unittest.TestCase):
    def check(self, table, text, history, most=720):
        """Hold all answers against the words of the document, event by event."""
        orders = all_orders_of(history)
        self.assertEqual(orders_of(table, history), orders)
        ends = {order: history_end(table, text, history, order) for order in orders[:most]}
        for order in orders[:most:7]:
            self.assertEqual(done_in(table, text, history, order), ends[order])
        found = judge_history(table, text, tuple(history))
        self.assertIs(found.shows(table, text, history), True)
        same = len(set(ends.values())) == 1 and None not in ends.values()
        if len(orders) <= most:
            self.assertIs(type(found), SameEnd if same else PartedEnd)
        if found:
            self.assertIs(type(found), SameEnd)
            self.assertEqual(set(ends.values()), {found.text})
        else:
            self.assertIs(type(found), PartedEnd)
            one, other = [history_end(table, text, history, order) for order in (found.one, found.other)]
            self.assertTrue(one is None or other is None or one != other)
            self.assertIn(found.one, orders)
            self.assertIn(found.other, orders)
        self.assertIs(bool(found), type(found) is SameEnd)
        return bool(found)

    def test_drawn_histories(self):
        random = seeded(51)
        found = []
        for _ in range(6):
            for table in tables_for(random):
                text, history = draw_history(random, table, random.randrange(6), random.randrange(1, 5))
                found.append(self.check(table, text, history))
        self.assertGreater(found.count(True), 20)
        self.assertGreater(found.count(False), 10)

    def test_six_events(self):
        random = seeded(52)
        for table in tables_for(random)[::2]:
            text, history = draw_history(random, table, 6, 4)
            self.check(table, text, history, 150)

    def test_always_the_same_where_any_number_agree(self):
        random = seeded(53)
        for words in ALWAYS:
            for table in [natural(kinds_of(words)), *good_tables(random, kinds_of(words), 8)]:
                if judge_any(table):
                    for many in (2, 3, 4, 5, 6):
                        text, history = draw_history(random, table, many, 4)
                        found = judge_history(table, text, history)
                        self.assertTrue(found)
                        self.assertTrue(found.shows(table, text, history))
        self.assertTrue(judge_history(PUTS, (1,), STORY))

    def test_six_hands_at_once(self):
        history = [(("put", 0, 10 + hand, hand), ()) for hand in range(6)]
        self.assertEqual(judge_history(BOTH, (1,), history), SameEnd((10, 11, 12, 13, 14, 15, 1)))
        self.assertEqual(len(orders_of(BOTH, history)), 720)

    def test_three_changes_that_do_not_agree(self):
        # One hand cuts a letter, and two put letters beside it: which one of these comes first depends on the order.
        history = [(("cut", 1, None, 0), ()), (("put", 1, 8, 2), ()), (("put", 2, 9, 1), ())]
        found = judge_history(BOTH, (4, 5, 6), history)
        self.assertEqual(type(found), PartedEnd)
        self.assertTrue(found.shows(BOTH, (4, 5, 6), history))
        self.check(BOTH, (4, 5, 6), history)

    def test_no_events_and_one(self):
        for history in ([], ()):
            self.assertEqual(orders_of(BOTH, history), [()])
            self.assertEqual(done_in(BOTH, (1, 2), history, ()), (1, 2))
            self.assertEqual(judge_history(BOTH, (1, 2), history), SameEnd((1, 2)))
        self.assertEqual(orders_of(BOTH, [A]), [(0,)])
        self.assertEqual(judge_history(BOTH, (1, 2), (A,)), SameEnd((7, 1, 2)))

    def test_a_chain_is_done_as_it_is(self):
        history = [(("put", 0, 7, 0), ()), (("cut", 1, None, 1), (0,)), (("put", 1, 8, 2), (0, 1)),
                   (("cut", 0, None, 0), (0, 1, 2))]
        self.assertEqual(orders_of(BENT.with_entry(("put", "put", 1, True), None), history[:1]), [(0,)])
        self.assertEqual(orders_of(BOTH, history), [(0, 1, 2, 3)])
        self.assertEqual(judge_history(BOTH, (4, 5), history), SameEnd((8, 5)))

    def test_forms_for_lists_of_which_the_last_are_seen(self):
        # Event 3 has seen what stands behind event 1 in the order, but not event 1.
        history = [(("put", 0, 7, 0), ()), (("put", 0, 8, 1), ()), (("put", 1, 9, 2), (0,)), (("put", 2, 10, 3), (0, 2))]
        self.check(PUTS, (1, 2), history)
        for table in (BENT, FAR):
            self.check(table, (1, 2), history)

    def test_orders_that_cannot_be_done(self):
        history = [A, B]
        self.assertIsNone(done_in(FAR, (), history, (0, 1)))
        self.assertEqual(done_in(FAR, (), history, (1, 0)), (7, 8))
        self.assertTrue(PartedEnd((0, 1), (1, 0)).shows(FAR, (), history))
        self.assertTrue(PartedEnd((1, 0), (0, 1)).shows(FAR, (), history))
        self.check(FAR, (), history)
        never = FAR.with_entry(("put", "put", 0, True), ("put", 2))
        self.check(never, (), history)
        self.assertFalse(SameEnd(None).shows(never, (), history))

    def test_what_is_given_stays_and_what_is_returned_is_new(self):
        history = list(STORY)
        orders_of(BOTH, history).append(1)
        judge_history(BOTH, (1,), history)
        done_in(BOTH, (1,), history, (0, 1, 2))
        self.assertEqual(history, STORY)
        self.assertEqual(orders_of(BOTH, history), [(0, 1, 2), (1, 0, 2)])


class Errors(unittest.TestCase):
    def asked(self):
        """All that asks for a history, with arguments ahead of and behind it that are right."""
        return [lambda table, text, history: orders_of(table, history),
                lambda table, text, history: done_in(table, text, history, None), judge_history,
                SameEnd(()).shows, PartedEnd((), ()).shows]

    def test_tables_and_lists(self):
        for asked in self.asked():
            for table in NO_TABLES:
                self.assertIsNone(raised(BadTable, asked, table, None, None).entry)
            for history in (None, 0, {}, "", iter([]), {A: 1}, [(("put", 0, 70 + at, at), ()) for at in range(7)], [0] * 7):
                self.assertIsNone(raised(BadHistory, asked, BOTH, None, history).number)

    def test_events(self):
        for asked in self.asked():
            for event in NO_EVENTS:
                for number in (0, 1, 2):
                    # Behind it a wrong one, too, and the text is none.
                    history = [*STORY[:number], event, 0]
                    with self.subTest(event=event, number=number):
                        self.assertEqual(raised(BadHistory, asked, BOTH, None, history).number, number)

    def test_what_must_be_seen(self):
        for asked in self.asked():
            for history, number in (
                    # Earlier events of the same hand.
                    ([A, (("put", 0, 9, 0), ())], 1), ([A, B, (("put", 0, 9, 1), (0,))], 2),
                    ([A, B, C, (("put", 0, 10, 0), (0, 1))], 3),
                    # What a seen event has seen.
                    ([A, B, C, (("put", 0, 10, 2), (2,))], 3), ([A, B, C, (("put", 0, 10, 2), (0, 2))], 3),
                    ([A, (("put", 0, 9, 1), (0,)), (("put", 0, 10, 2), (1,))], 2),
                    # Ascending, each once, and earlier ones.
                    ([A, B, (("put", 0, 9, 2), (1, 0))], 2), ([A, B, (("put", 0, 9, 2), (0, 0, 1))], 2),
                    ([A, B, (("put", 0, 9, 2), (0, 2))], 2), ([A, B, (("put", 0, 9, 2), (0, 3))], 2),
                    ([A, B, (("put", 0, 9, 2), (False,))], 2)):
                self.assertEqual(raised(BadHistory, asked, BOTH, None, history).number, number)

    def test_texts(self):
        for asked in self.asked()[1:]:
            for text in NO_TEXTS:
                raised(BadText, asked, BOTH, text, [(("put", 5, 7, 0), ())])

    def test_changes_that_are_not_for_the_text(self):
        for asked in self.asked()[1:]:
            for history, number in (
                    ([(("put", 3, 7, 0), ())], 0), ([(("cut", 2, None, 0), ())], 0), ([(("cut", -1, None, 0), ())], 0),
                    # The letter is in the text, or an earlier event has it, seen or not.
                    ([(("put", 0, 5, 0), ())], 0), ([A, (("put", 0, 7, 1), ())], 1), ([A, (("put", 0, 7, 1), (0,))], 1),
                    ([A, (("cut", 0, None, 0), (0,)), (("put", 0, 7, 0), (0, 1))], 2),
                    ([(("cut", 0, None, 0), ()), (("put", 0, 4, 0), (0,))], 1),
                    # It cannot be done to the text behind what it has seen.
                    ([A, (("put", 4, 9, 1), (0,))], 1), ([A, (("put", 3, 9, 1), ())], 1),
                    ([(("cut", 0, None, 0), ()), (("cut", 1, None, 1), (0,))], 1),
                    # The first one of two.
                    ([A, (("put", 4, 9, 1), (0,)), (("put", 9, 10, 2), ())], 1)):
                self.assertEqual(raised(BadHistory, asked, BOTH, (4, 5), history).number, number)
        self.assertEqual(judge_history(BOTH, (4, 5), [A, (("put", 3, 9, 1), (0,))]).text, (7, 4, 5, 9))

    def test_a_change_behind_events_that_cannot_be_done(self):
        history = [A, B, (("put", 0, 9, 2), (0, 1))]
        self.assertEqual(orders_of(FAR, history), [(0, 1, 2), (1, 0, 2)])
        for asked in self.asked()[1:]:
            self.assertEqual(raised(BadHistory, asked, FAR, (), history).number, 2)

    def test_the_forms_of_what_was_seen_are_those_in_ascending_order(self):
        # Behind 0 and then 1 the text is (8, 7), by the bent table; behind 1 and then 0 it is (7, 8).
        history = [(("put", 0, 7, 0), ()), (("put", 0, 8, 1), ()), (("put", 2, 9, 2), (0, 1))]
        self.assertEqual(done_in(BENT, (), history, (0, 1, 2)), (8, 7, 9))
        self.assertEqual(done_in(BENT, (), history, (1, 0, 2)), (7, 8, 9))

    def test_orders(self):
        for order in (None, 0, [], [0, 1, 2], "012", (), (0, 1), (0, 1, 2, 3), (0, 1, 1), (0, 1, 3), (0, 1, -1), (2, 0, 1),
                      (0, 2, 1), (1, 2, 0), (0, True, 2), (0, 1, "2"), (0, 1, None), (3, 1, 2)):
            raised(BadNumber, done_in, BOTH, (1,), STORY, order)
        # Behind the events that are not for the text.
        self.assertEqual(raised(BadHistory, done_in, BOTH, (7,), STORY, None).number, 0)
        self.assertEqual(done_in(BOTH, (1,), STORY, (0, 1, 2)), (7, 8, 9, 1))


class SameEndEvidence(unittest.TestCase):
    def test_equal_and_bool(self):
        self.assertTrue(SameEnd((1,)) == SameEnd((1,)))
        for other in (SameEnd((2,)), SameEnd(()), None, (1,), PartedEnd((0,), (0,))):
            self.assertFalse(SameEnd((1,)) == other)
        self.assertIs(bool(SameEnd((1,))), True)
        self.assertEqual(SameEnd((1,)).text, (1,))

    def test_shows(self):
        self.assertIs(SameEnd((7, 8, 9, 1)).shows(PUTS, (1,), STORY), True)
        for text in ((7, 8, 1, 9), (8, 7, 9, 1), (), (1,), (7, 8, 9, True), None, [7, 8, 9, 1]):
            self.assertIs(SameEnd(text).shows(PUTS, (1,), STORY), False)
        self.assertIs(SameEnd((8, 7)).shows(BENT, (), STORY[:2]), False)
        self.assertIs(SameEnd((7, 8)).shows(BENT, (), STORY[:2]), False)
        found = judge_history(PUTS, (1,), STORY)
        found.text = (1,)
        self.assertIs(found.shows(PUTS, (1,), STORY), False)
        self.assertIs(found.shows(PUTS, (1,), []), True)


class PartedEndEvidence(unittest.TestCase):
    def test_equal_and_bool(self):
        found = PartedEnd((0, 1), (1, 0))
        self.assertTrue(found == PartedEnd((0, 1), (1, 0)))
        for other in (PartedEnd((1, 0), (0, 1)), PartedEnd((0, 1), (0, 1)), PartedEnd((1, 0), (1, 0)), None, SameEnd(())):
            self.assertFalse(found == other)
        self.assertIs(bool(found), False)
        self.assertEqual((found.one, found.other), ((0, 1), (1, 0)))

    def test_shows_any_two_orders_that_part(self):
        history = [(("put", 0, 7, 0), ()), (("put", 0, 8, 1), ()), (("put", 0, 9, 2), ())]
        orders = list(permutations(range(3)))
        ends = {order: history_end(BENT, (), history, order) for order in orders}
        self.assertGreater(len(set(ends.values())), 1)
        for one in orders:
            for other in orders:
                found = PartedEnd((2, 1, 0), (0, 1, 2))
                found.one, found.other = one, other
                self.assertIs(found.shows(BENT, (), history), ends[one] != ends[other])
                self.assertIs(found.shows(PUTS, (), history), False)

    def test_shows_orders_that_are_none(self):
        for order in (None, 0, [], [1, 0], (), (0,), (0, 0), (0, 1, 2), (1, False), (0, 2), (-1, 0), "10"):
            self.assertIs(PartedEnd(order, (0, 1)).shows(BENT, (), STORY[:2]), False)
            self.assertIs(PartedEnd((0, 1), order).shows(BENT, (), STORY[:2]), False)
        self.assertIs(PartedEnd((0, 1), (1, 0)).shows(BENT, (), STORY[:2]), True)
        # What was seen is ahead.
        history = [A, (("put", 0, 8, 1), (0,))]
        self.assertIs(PartedEnd((0, 1), (1, 0)).shows(BENT, (), history), False)


if __name__ == "__main__":
    unittest.main()
