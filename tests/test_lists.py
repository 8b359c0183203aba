"""Lists of changes: points [11] and [12]."""

import unittest
from random import Random

from changetables.errors import BadChange, BadKinds, BadTable, BadText, CannotDo, SameHand
from changetables.lists import Effect, effect, lists_behind, same_lists
from changetables.tables import natural
from reference import ROWS, SOMETIMES, bent, done_to, form_of, good_tables, kinds_of, letter_of, raised

KINDS = kinds_of("put cut swap set")
BOTH = natural(kinds_of("put cut"))
NO_KINDS = [None, 0, {}, "put", {"put": (0, ("new",))}, ["put"]]
NO_LISTS = [None, 0, {}, "put", ("put", 0, 5, 0, 1).__iter__(), {("put", 0, 5, 0): 1}]
NO_CHANGES = [0, "put", (), ["put", 0, 5, 0], ("put", 0, 5), ("put", 0, 5, 0, 0), ("pot", 0, 5, 0), (None, 0, 5, 0),
              ("put", True, 5, 0), ("put", 0, None, 0), ("put", 0, "5", 0), ("put", 0, 5, -1), ("put", 0, 5, True),
              ("put", None, 5, 0), ("cut", 0, 5, 0), ("cut", 0, None, None)]
FARTHEST = 12


def drawn(random, kinds, many, letters):
    """A list of so many changes, drawn, now and then None, with letters out of these."""
    changes = []
    for _ in range(many):
        name = random.choice(sorted(kinds.told))
        place = random.randrange(7) - (random.random() < 0.05)
        change = (name, place, letter_of(kinds, name, random.choice(letters)), random.randrange(3))
        changes.append(None if random.random() < 0.1 else change)
    return changes


def end_of(kinds, text, changes):
    """The text behind a list; None, if not all can be done."""
    for change in changes:
        if change is not None:
            text = done_to(kinds, text, change)
            if text is None:
                return None
    return text


def letters_of(changes):
    """The letters of changes."""
    return {change[2] for change in changes if change is not None} - {None}


class Effects(unittest.TestCase):
    def check(self, kinds, changes):
        """Hold the Effect against doing the list to texts of all lengths."""
        found = effect(kinds, changes)
        texts = [tuple(range(1000, 1000 + length)) for length in range(FARTHEST * 2)]
        needs = [len(text) for text in texts if end_of(kinds, text, changes) is not None]
        if not needs:
            self.assertIsNone(found)
            return
        self.assertIs(type(found), Effect)
        self.assertEqual(found.need, needs[0])
        self.assertEqual(needs, list(range(needs[0], FARTHEST * 2)))
        end = end_of(kinds, tuple(range(1000, 1000 + found.need)), changes)
        row = tuple(letter - 1000 if letter >= 1000 else ("new", letter) for letter in end)
        self.assertEqual(found.row, row)
        self.assertIs(type(found.row), tuple)
        for text in texts:
            if len(text) >= found.need:
                self.assertEqual(found.of(text), end_of(kinds, text, changes))
            else:
                self.assertIsNone(raised(CannotDo, found.of, text).place)

    def test_drawn_lists(self):
        random = Random(11)
        for _ in range(400):
            kinds = kinds_of(" ".join(random.sample(sorted(ROWS), random.randrange(1, 5))))
            self.check(kinds, drawn(random, kinds, random.randrange(9), list(range(50, 100))))

    def test_drawn_lists_with_few_letters(self):
        random = Random(12)
        for _ in range(400):
            self.check(KINDS, drawn(random, KINDS, random.randrange(9), [50, 51, 52]))

    def test_no_changes(self):
        for changes in ([], (), [None], (None, None)):
            self.assertEqual(effect(KINDS, changes), Effect(0, ()))

    def test_one_change(self):
        self.assertEqual(effect(KINDS, [("put", 3, 9, 0)]), Effect(3, (0, 1, 2, ("new", 9))))
        self.assertEqual(effect(KINDS, (("swap", 1, None, 0),)), Effect(3, (0, 2, 1)))
        self.assertEqual(effect(KINDS, [None, ("cut", 0, None, 5)]), Effect(1, ()))

    def test_longer_texts_are_needed_for_later_changes(self):
        changes = [("put", 0, 7, 0), ("cut", 3, None, 0), ("cut", 3, None, 0), ("swap", 4, None, 0)]
        self.assertEqual(effect(KINDS, changes), Effect(7, (("new", 7), 0, 1, 4, 6, 5)))

    def test_a_place_below_0(self):
        for place in (-1, -2, -9):
            for name, letter in (("put", 5), ("cut", None), ("swap", None), ("set", 5)):
                self.assertIsNone(effect(KINDS, [(name, place, letter, 0)]))
                self.assertIsNone(effect(KINDS, [("put", 2, 8, 0), None, (name, place, letter, 0)]))

    def test_one_letter_twice(self):
        self.assertIsNone(effect(KINDS, [("put", 0, 5, 0), ("put", 0, 5, 0)]))
        self.assertIsNone(effect(KINDS, [("put", 0, 5, 0), ("set", 0, 5, 1)]))
        self.assertIsNone(effect(KINDS, [("put", 0, 5, 0), ("put", 4, 5, 1)]))

    def test_one_letter_put_cut_and_put_again(self):
        changes = [("put", 0, 5, 0), ("cut", 0, None, 0), ("put", 1, 5, 0)]
        self.assertEqual(effect(KINDS, changes), Effect(1, (0, ("new", 5))))
        self.assertEqual(effect(KINDS, [("put", 0, 5, 0), ("set", 0, 6, 0), ("put", 0, 5, 0)]),
                         Effect(0, (("new", 5), ("new", 6))))

    def test_letters_that_are_the_numbers_of_letters(self):
        found = effect(KINDS, [("put", 1, 0, 0), ("put", 0, 1, 0)])
        self.assertEqual(found, Effect(1, (("new", 1), 0, ("new", 0))))
        self.assertEqual(found.of((7, 8)), (1, 7, 0, 8))

    def test_letters_below_0(self):
        found = effect(KINDS, [("put", 0, -1, 0)])
        self.assertEqual(found.of((7, -2)), (-1, 7, -2))
        self.assertIsNone(raised(CannotDo, found.of, (-1,)).place)

    def test_hands_make_no_difference(self):
        self.assertEqual(effect(KINDS, [("put", 0, 5, 0), ("put", 0, 6, 0)]),
                         effect(KINDS, [("put", 0, 5, 3), ("put", 0, 6, 9)]))

    def test_long_texts_stay_as_they_are_behind(self):
        found = effect(KINDS, [("put", 0, 5, 0), ("cut", 1, None, 0)])
        self.assertEqual(found.of(tuple(range(100, 200))), (5, *range(101, 200)))

    def test_of_texts_with_one_of_the_letters(self):
        found = effect(KINDS, [("put", 0, 5, 0), ("put", 2, 6, 0)])
        for text in ((5,), (6,), (1, 2, 3, 5), (6, 1), (5, 6, 7), (1, 2, 6)):
            self.assertIsNone(raised(CannotDo, found.of, text).place)
        self.assertEqual(found.of((1,)), (5, 1, 6))

    def test_of_texts_that_are_too_short(self):
        found = effect(KINDS, [("cut", 1, None, 0)])
        for text in ((), (4,)):
            self.assertIsNone(raised(CannotDo, found.of, text).place)
        self.assertEqual(found.of((4, 5)), (4,))

    def test_of_no_text(self):
        found = effect(KINDS, [("cut", 1, None, 0)])
        for text in (None, [1, 2], "ab", (1, 1), (1, "2"), (1, True), 5, {1: 2}, ((1,), 2)):
            raised(BadText, found.of, text)
        # Ahead of what else is wrong.
        raised(BadText, found.of, (3, 3))
        raised(BadText, effect(KINDS, [("put", 0, 5, 0)]).of, (5, 5))

    def test_attributes_and_equality(self):
        found = Effect(2, (1, ("new", 50)))
        self.assertEqual((found.need, found.row), (2, (1, ("new", 50))))
        self.assertTrue(found == Effect(2, (1, ("new", 50))))
        for other in (Effect(3, (1, ("new", 50))), Effect(2, (1, ("new", 51))), Effect(2, (1,)), Effect(2, ()), None,
                      2, (2, (1, ("new", 50)))):
            self.assertFalse(found == other)
            self.assertTrue(found != other)
        self.assertEqual(found.of((5, 6, 7)), (6, 50, 7))

    def test_what_is_given_is_not_changed(self):
        changes = [("put", 0, 5, 0), None, ("cut", 3, None, 0)]
        effect(KINDS, changes)
        self.assertEqual(changes, [("put", 0, 5, 0), None, ("cut", 3, None, 0)])

    def test_errors(self):
        for kinds in NO_KINDS:
            self.assertIsNone(raised(BadKinds, effect, kinds, [0]).name)
            self.assertIsNone(raised(BadKinds, effect, kinds, None).name)
        for changes in NO_LISTS:
            self.assertIsNone(raised(BadChange, effect, KINDS, changes).place)
        for change in NO_CHANGES:
            for number in range(3):
                changes = [None, ("put", 0, 5, 0)][:number] + [change, 0]
                self.assertEqual(raised(BadChange, effect, KINDS, changes).place, number)
        # Also behind what can be done to no text.
        self.assertEqual(raised(BadChange, effect, KINDS, [("put", -1, 5, 0), 7]).place, 1)


class Same(unittest.TestCase):
    def check(self, kinds, one, other):
        """Hold the answer against doing both lists to texts of many lengths."""
        texts = [tuple(range(1000, 1000 + length)) for length in range(FARTHEST * 2)]
        wanted = all(end_of(kinds, text, one) == end_of(kinds, text, other) for text in texts)
        self.assertIs(same_lists(kinds, one, other), wanted)
        self.assertIs(same_lists(kinds, other, tuple(one)), wanted)
        return wanted

    def test_drawn_lists(self):
        random = Random(13)
        found = [self.check(KINDS, drawn(random, KINDS, random.randrange(4), [50, 51]),
                            drawn(random, KINDS, random.randrange(4), [50, 51])) for _ in range(3000)]
        self.assertGreater(found.count(True), 20)
        self.assertGreater(found.count(False), 20)

    def test_lists_that_are_the_same(self):
        for one, other in (
                ([], [None]),
                ([("swap", 0, None, 0)] * 4, [("swap", 0, None, 1)] * 2),
                ([("put", 0, 5, 0), ("put", 0, 6, 0)], [("put", 0, 6, 1), ("put", 1, 5, 0)]),
                ([("cut", 1, None, 0), ("put", 1, 5, 0)], [("set", 1, 5, 0)]),
                ([("put", 0, 5, 0), ("cut", 0, None, 0)], []),
                ([("put", -1, 5, 0)], [("put", 0, 5, 0), ("put", 0, 5, 0)])):
            self.assertTrue(self.check(KINDS, one, other))

    def test_lists_that_are_not(self):
        for one, other in (
                ([], [("swap", 0, None, 0)] * 2),
                ([("put", 0, 5, 0)], [("put", 0, 6, 0)]),
                ([("put", 0, 5, 0)], []),
                ([], [("put", -1, 5, 0)]),
                ([("put", 1, 5, 0), ("cut", 1, None, 0)], []),
                ([("cut", 0, None, 0)], [("cut", 1, None, 0)])):
            self.assertFalse(self.check(KINDS, one, other))

    def test_errors(self):
        for kinds in NO_KINDS:
            self.assertIsNone(raised(BadKinds, same_lists, kinds, None, None).name)
        for changes in NO_LISTS:
            self.assertIsNone(raised(BadChange, same_lists, KINDS, changes, [0]).place)
            self.assertIsNone(raised(BadChange, same_lists, KINDS, [], changes).place)
            self.assertEqual(raised(BadChange, same_lists, KINDS, [None, 0], changes).place, 1)
        for change in NO_CHANGES:
            self.assertEqual(raised(BadChange, same_lists, KINDS, [None, None, change], [change]).place, 2)
            self.assertEqual(raised(BadChange, same_lists, KINDS, [None, None], [None, change]).place, 1)
            # Also where the first list can be done to no text.
            self.assertEqual(raised(BadChange, same_lists, KINDS, [("put", -1, 5, 0)], [change]).place, 0)


def by_squares(kinds, told, one, other):
    """The forms of both lists, square by square: [row][column] has the forms that meet there."""
    down = {(row, 0): change for row, change in enumerate(one)}
    right = {(0, column): change for column, change in enumerate(other)}
    for row in range(len(one)):
        for column in range(len(other)):
            first, second = down[row, column], right[row, column]
            down[row, column + 1] = form_of(kinds, told, first, second)
            right[row + 1, column] = form_of(kinds, told, second, first)
    forms = [down[row, len(other)] for row in range(len(one))]
    others = [right[len(one), column] for column in range(len(other))]
    return ([form for form in forms if form is not None], [form for form in others if form is not None])


def done_lists(random, kinds, length, hand):
    """A list of one hand, drawn, that can be done to the text of a length, and its text."""
    text, changes = tuple(range(length)), []
    for number in range(random.randrange(5)):
        name = random.choice(sorted(kinds.told))
        if len(text) >= kinds.told[name][0]:
            place = random.randrange(len(text) - kinds.told[name][0] + 1)
            change = (name, place, letter_of(kinds, name, 100 + 10 * hand + number), hand)
            changes.append(change)
            text = done_to(kinds, text, change)
        if random.random() < 0.2:
            changes.append(None)
    return changes, text


class Behind(unittest.TestCase):
    def test_square_by_square(self):
        random = Random(21)
        for _ in range(300):
            kinds = kinds_of(" ".join(random.sample(sorted(ROWS), random.randrange(1, 4))))
            table = bent(random, kinds, random.randrange(14))
            hands = random.sample(range(4), 2)
            one, other = [[None if change is None else (*change[:3], hand) for change in
                           drawn(random, kinds, random.randrange(6), list(range(50, 100)))] for hand in hands]
            found = lists_behind(table, one, other)
            self.assertEqual(found, by_squares(kinds, table.told, one, other))
            self.assertEqual(lists_behind(table, tuple(other), tuple(one)), (found[1], found[0]))

    def test_both_ways_make_the_same_text_where_all_two_changes_meet_well(self):
        random = Random(22)
        for words in SOMETIMES + ["put cut swap", "cut set join", "cut put set swap"]:
            for table in good_tables(random, kinds_of(words), 3):
                for _ in range(20):
                    length = random.randrange(7)
                    one, text = done_lists(random, table.kinds, length, 1)
                    other, again = done_lists(random, table.kinds, length, 2)
                    forms, others = lists_behind(table, one, other)
                    end = end_of(table.kinds, again, forms)
                    self.assertIsNotNone(end)
                    self.assertEqual(end, end_of(table.kinds, text, others))

    def test_forms_that_are_none_are_left_out(self):
        cuts = [("cut", 0, None, 0)] * 2
        self.assertEqual(lists_behind(BOTH, cuts, [("cut", 0, None, 1)]), ([("cut", 0, None, 0)], []))
        self.assertEqual(lists_behind(BOTH, cuts, [("cut", 1, None, 1)]), ([("cut", 0, None, 0)], []))
        self.assertEqual(lists_behind(BOTH, cuts, [("cut", 2, None, 1)]), (cuts, [("cut", 0, None, 1)]))

    def test_none_in_a_list(self):
        one, other = [None, ("put", 0, 50, 0), None], [("cut", 0, None, 1), None]
        self.assertEqual(lists_behind(BOTH, one, other), ([("put", 0, 50, 0)], [("cut", 1, None, 1)]))
        self.assertEqual(lists_behind(BOTH, [None], [None]), ([], []))

    def test_empty_lists(self):
        self.assertEqual(lists_behind(BOTH, [], []), ([], []))
        self.assertEqual(lists_behind(BOTH, (), [("cut", 4, None, 1)]), ([], [("cut", 4, None, 1)]))
        self.assertEqual(lists_behind(BOTH, [("cut", 4, None, 1)], ()), ([("cut", 4, None, 1)], []))

    def test_the_lists_are_new_and_not_changed(self):
        one, other = [("put", 0, 50, 0)], []
        found = lists_behind(BOTH, one, other)
        self.assertIs(type(found), tuple)
        self.assertEqual([type(part) for part in found], [list, list])
        found[0].append(1)
        found[1].append(1)
        self.assertEqual((one, other), ([("put", 0, 50, 0)], []))
        self.assertEqual([type(part) for part in lists_behind(BOTH, tuple(one), ())], [list, list])

    def test_errors(self):
        good = [("put", 0, 5, 0)]
        for table in (None, 0, {}, BOTH.kinds, BOTH.told):
            self.assertIsNone(raised(BadTable, lists_behind, table, None, None).entry)
        for changes in NO_LISTS:
            self.assertIsNone(raised(BadChange, lists_behind, BOTH, changes, [0]).place)
            self.assertIsNone(raised(BadChange, lists_behind, BOTH, good, changes).place)
            self.assertEqual(raised(BadChange, lists_behind, BOTH, [None, 0], changes).place, 1)
        for change in NO_CHANGES:
            self.assertEqual(raised(BadChange, lists_behind, BOTH, [None, change], [change]).place, 1)
            self.assertEqual(raised(BadChange, lists_behind, BOTH, good, [*good, None, change]).place, 2)

    def test_hands(self):
        cuts = {hand: ("cut", 0, None, hand) for hand in range(3)}
        for one, other in (([0], [0]), ([0, 0], [0]), ([1], [1, 1]), ([0, 1], [2]), ([0], [1, 2]), ([0, 1], [0]),
                           ([0, 1], [1]), ([0, 1], [0, 1]), ([0, 1, 2], []), ([], [0, 1]), ([0, 1], [])):
            with self.subTest(one=one, other=other):
                raised(SameHand, lists_behind, BOTH, [cuts[hand] for hand in one], [None, *(cuts[hand] for hand in other)])
        for one, other in (([0], []), ([], [0, 0]), ([0, 0], [1]), ([2], [1, 1])):
            lists_behind(BOTH, [None, *(cuts[hand] for hand in one)], [cuts[hand] for hand in other])


if __name__ == "__main__":
    unittest.main()
