"""Tables: point [4], the partner of point [7], and what point [1] says of them."""

import unittest

from changetables.changes import done
from changetables.errors import BadChange, BadKinds, BadTable, SameHand
from changetables.kinds import Kinds
from changetables.tables import Table, entry_of, natural, partner, values_of
from reference import raised

PUT, CUT, SET, SWAP = (0, ("new",)), (1, ()), (1, ("new",)), (2, (1, 0))
DROP, JOIN, WIDE = (2, ()), (2, ("new",)), (2, (1, "new", 0))

FOUR = Kinds({"put": PUT, "cut": CUT, "set": SET, "swap": SWAP})
TWO = Kinds({"put": PUT, "cut": CUT})

NO_ENTRIES = [
    None, 1, "put", (), [], ("put", "cut", 0), ("put", "cut", 0, True, True), ["put", "cut", 0, True],
    ("puts", "cut", 0, True), ("put", "swap", 0, True), ("", "cut", 0, True), (None, "cut", 0, True),
    ("put", 1, 0, True), (["put"], "cut", 0, True), ("put", ["cut"], 0, True),
    ("put", "cut", 4, True), ("put", "cut", -4, True), ("put", "cut", "0", True), ("put", "cut", None, True),
    ("put", "cut", 1.0, True), ("put", "cut", True, True), ("put", "cut", False, False),
    ("put", "cut", 0, 1), ("put", "cut", 0, 0), ("put", "cut", 0, None), ("put", "cut", 0, "less"),
]

# None of them is a value of any entry of TWO.
NO_VALUES = [
    1, "put", "", True, (), [], ["cut", 0], ("cut",), ("cut", 0, 0), (("cut", 0),), ("cuts", 0), ("swap", 0),
    (None, 0), (0, "cut"), (["cut"], 0), ("cut", 3), ("cut", -3), ("cut", None), ("cut", "0"), ("cut", 1.0),
    ("cut", True), ("cut", False), ("put", 3), ("put", True), {"cut": 0},
]


def entries(names):
    """All entries for these names, ascending, written out here once more."""
    found = []
    for one in sorted(names):
        for other in sorted(names):
            for gap in (-3, -2, -1, 0, 1, 2, 3):
                for less in (False, True):
                    found.append((one, other, gap, less))
    return found


def barred(kinds):
    """What a table tells in which each change is dropped behind every other one."""
    return {entry: None for entry in entries(kinds.names())}


class EntryOf(unittest.TestCase):
    def test_places_near_and_far_and_both_orders_of_hands(self):
        gaps = {-100: -3, -5: -3, -4: -3, -3: -3, -2: -2, -1: -1, 0: 0, 1: 1, 2: 2, 3: 3, 4: 3, 5: 3, 100: 3}
        for far, gap in gaps.items():
            for place in (0, 8, 200, -9):
                with self.subTest(far=far, place=place):
                    one, other = ("put", place + far, 9, 1), ("cut", place, None, 2)
                    self.assertEqual(entry_of(one, other), ("put", "cut", gap, True))
                    self.assertEqual(entry_of(other, one), ("cut", "put", -gap, False))
                    one, other = ("put", place + far, 9, 2), ("cut", place, None, 0)
                    self.assertEqual(entry_of(one, other), ("put", "cut", gap, False))
                    self.assertEqual(entry_of(other, one), ("cut", "put", -gap, True))

    def test_the_last_part_is_a_boolean(self):
        self.assertIs(entry_of(("cut", 0, None, 0), ("cut", 0, None, 1))[3], True)
        self.assertIs(entry_of(("cut", 0, None, 1), ("cut", 0, None, 0))[3], False)

    def test_two_changes_of_one_hand(self):
        raised(SameHand, entry_of, ("cut", 0, None, 0), ("cut", 5, None, 0))
        raised(SameHand, entry_of, ("put", 3, 8, 7), ("cut", 5, None, 7))


class Partner(unittest.TestCase):
    def test_names_gap_and_hands_are_exchanged(self):
        self.assertEqual(partner(("put", "cut", 2, True)), ("cut", "put", -2, False))
        self.assertEqual(partner(("put", "cut", -3, False)), ("cut", "put", 3, True))
        self.assertEqual(partner(("put", "put", 0, False)), ("put", "put", 0, True))
        self.assertIs(partner(("put", "put", 1, False))[3], True)

    def test_it_is_the_entry_the_other_way_round(self):
        for far in range(-6, 7):
            for hands in ((0, 1), (1, 0), (2, 7)):
                one, other = ("put", 10 + far, 9, hands[0]), ("cut", 10, None, hands[1])
                self.assertEqual(partner(entry_of(one, other)), entry_of(other, one))

    def test_the_partner_of_the_partner(self):
        for entry in entries(["cut", "put"]):
            self.assertEqual(partner(partner(entry)), entry)


class ValuesOf(unittest.TestCase):
    def test_none_first_then_ascending(self):
        self.assertEqual(values_of(TWO, ("cut", "put", 3, False)),
                         [None, ("cut", -2), ("cut", -1), ("cut", 0), ("cut", 1), ("cut", 2)])
        self.assertEqual(values_of(TWO, ("put", "cut", -3, True)),
                         [None, ("cut", -2), ("cut", -1), ("cut", 0), ("cut", 1), ("cut", 2),
                          ("put", -2), ("put", -1), ("put", 0), ("put", 1), ("put", 2)])

    def test_kinds_with_a_letter_only_where_the_first_one_has_it(self):
        for entry in entries(FOUR.names()):
            names = ["cut", "put", "set", "swap"] if entry[0] in ("put", "set") else ["cut", "swap"]
            expected = [None] + [(name, shift) for name in names for shift in (-2, -1, 0, 1, 2)]
            with self.subTest(entry=entry):
                self.assertEqual(values_of(FOUR, entry), expected)

    def test_all_are_values_of_a_table_and_no_others(self):
        table = natural(FOUR)
        for entry in (("put", "cut", 0, True), ("cut", "put", -1, False), ("swap", "swap", 3, True)):
            values = values_of(FOUR, entry)
            for name in FOUR.names():
                for shift in range(-4, 5):
                    with self.subTest(entry=entry, name=name, shift=shift):
                        if (name, shift) in values:
                            self.assertEqual(table.with_entry(entry, (name, shift)).told[entry], (name, shift))
                        else:
                            raised(BadTable, table.with_entry, entry, (name, shift))

    def test_a_new_list(self):
        entry = ("cut", "cut", 0, True)
        found = values_of(TWO, entry)
        self.assertIsInstance(found, list)
        found.clear()
        self.assertEqual(len(values_of(TWO, entry)), 6)

    def test_what_is_no_entry(self):
        for entry in NO_ENTRIES:
            with self.subTest(entry=entry):
                self.assertEqual(raised(BadTable, values_of, TWO, entry).entry, entry)

    def test_what_are_no_kinds(self):
        for kinds in (None, {}, TWO.told, natural(TWO), "put"):
            with self.subTest(kinds=kinds):
                self.assertIsNone(raised(BadKinds, values_of, kinds, "none").name)


class Natural(unittest.TestCase):
    def check(self, kinds, one, other, expected):
        """Each dict has what becomes of a change for each gap, for both orders of hands."""
        table = natural(kinds)
        for gap, values in expected.items():
            for less, value in zip((False, True), values):
                with self.subTest(one=one, other=other, gap=gap, less=less):
                    self.assertEqual(table.told[one, other, gap, less], value)

    def test_insertions(self):
        stays, moved = ("put", 0), ("put", 1)
        self.check(TWO, "put", "put", {
            -3: (stays, stays), -2: (stays, stays), -1: (stays, stays), 0: (moved, stays),
            1: (moved, moved), 2: (moved, moved), 3: (moved, moved)})

    def test_insertions_at_one_place(self):
        table = natural(TWO)
        for place in (0, 1, 50):
            for low, high in ((0, 1), (0, 9), (3, 4)):
                one, other = ("put", place, 7, low), ("put", place, 8, high)
                self.assertEqual(table.behind(one, other), one)
                self.assertEqual(table.behind(other, one), ("put", place + 1, 8, high))

    def test_an_insertion_and_a_kind_of_the_width_1(self):
        stays, back = ("put", 0), ("put", -1)
        self.check(TWO, "put", "cut", {gap: (stays, stays) for gap in (-3, -2, -1, 0)})
        self.check(TWO, "put", "cut", {gap: (back, back) for gap in (1, 2, 3)})
        stays, moved = ("cut", 0), ("cut", 1)
        self.check(TWO, "cut", "put", {gap: (stays, stays) for gap in (-3, -2, -1)})
        self.check(TWO, "cut", "put", {gap: (moved, moved) for gap in (0, 1, 2, 3)})

    def test_kinds_of_the_width_1(self):
        stays, back = ("cut", 0), ("cut", -1)
        self.check(TWO, "cut", "cut", {gap: (stays, stays) for gap in (-3, -2, -1)})
        self.check(TWO, "cut", "cut", {0: (None, None)})
        self.check(TWO, "cut", "cut", {gap: (back, back) for gap in (1, 2, 3)})
        self.check(FOUR, "cut", "set", {gap: (stays, stays) for gap in (-3, -2, -1, 1, 2, 3)})
        self.check(FOUR, "cut", "set", {0: (None, None)})

    def test_kinds_of_the_width_2(self):
        kinds = Kinds({"put": PUT, "cut": CUT, "drop": DROP, "wide": WIDE})
        wide, drop, cut, put = ("wide", 0), ("drop", 0), ("cut", 0), ("put", 0)
        self.check(kinds, "wide", "drop", {gap: (wide, wide) for gap in (-3, -2)})
        self.check(kinds, "wide", "drop", {gap: (None, None) for gap in (-1, 0, 1)})
        self.check(kinds, "wide", "drop", {gap: (("wide", -2), ("wide", -2)) for gap in (2, 3)})
        self.check(kinds, "drop", "wide", {-3: (drop, drop), -2: (drop, drop), -1: (None, None), 0: (None, None),
                                           1: (None, None), 2: (("drop", 1),) * 2, 3: (("drop", 1),) * 2})
        self.check(kinds, "cut", "drop", {-1: (cut, cut), 0: (None, None), 1: (None, None), 2: (("cut", -2),) * 2})
        self.check(kinds, "drop", "cut", {-2: (drop, drop), -1: (None, None), 0: (None, None), 1: (("drop", -1),) * 2})
        self.check(kinds, "put", "drop", {-1: (put, put), 0: (put, put), 1: (None, None), 2: (("put", -2),) * 2})
        self.check(kinds, "drop", "put", {-2: (drop, drop), -1: (None, None), 0: (("drop", 1),) * 2})
        self.check(kinds, "put", "wide", {0: (put, put), 1: (None, None), 2: (("put", 1),) * 2, 3: (("put", 1),) * 2})

    def test_for_all_places_as_is_told(self):
        for told in ({"a": PUT, "b": CUT, "c": SET, "d": SWAP}, {"a": PUT, "b": DROP, "c": JOIN, "d": WIDE}):
            kinds = Kinds(told)
            table = natural(kinds)
            for one in kinds.names():
                for other in kinds.names():
                    for far in range(-8, 9):
                        for hands in ((0, 1), (1, 0)):
                            with self.subTest(told=told, one=one, other=other, far=far, hands=hands):
                                self.check_as_told(table, one, other, far, hands)

    def check_as_told(self, table, one, other, far, hands):
        first = (one, 20 + far, 7 if "new" in table.kinds[one][1] else None, hands[0])
        second = (other, 20, 8 if "new" in table.kinds[other][1] else None, hands[1])
        width, other_width = table.kinds[one][0], table.kinds[other][0]
        if width == other_width == far == 0:
            moved = 0 if hands[0] < hands[1] else 1
        elif 20 + far + width <= 20:
            moved = 0
        elif 20 + far >= 20 + other_width:
            moved = len(table.kinds[other][1]) - other_width
        else:
            moved = None
        expected = None if moved is None else (one, 20 + far + moved, first[2], hands[0])
        self.assertEqual(table.behind(first, second), expected)

    def test_both_ways_make_the_same_text_where_neither_is_in_the_others_way(self):
        table = natural(FOUR)
        text = (0, 1, 2, 3, 4, 5)
        for one, other in ((("put", 2, 50, 0), ("put", 2, 60, 1)), (("put", 3, 50, 0), ("cut", 2, None, 1)),
                           (("swap", 0, None, 1), ("set", 2, 60, 0)), (("cut", 5, None, 4), ("swap", 3, None, 2))):
            first = done(FOUR, done(FOUR, text, other), table.behind(one, other))
            self.assertEqual(first, done(FOUR, done(FOUR, text, one), table.behind(other, one)))

    def test_it_is_a_table_of_these_kinds(self):
        for kinds in (TWO, FOUR, Kinds({"swap": SWAP})):
            table = natural(kinds)
            self.assertIsInstance(table, Table)
            self.assertEqual(table.kinds, kinds)
            self.assertEqual(list(table.told), entries(kinds.names()))

    def test_what_are_no_kinds(self):
        for kinds in (None, {}, TWO.told, "put", natural(TWO)):
            with self.subTest(kinds=kinds):
                self.assertIsNone(raised(BadKinds, natural, kinds).name)


class Behind(unittest.TestCase):
    def setUp(self):
        self.put, self.cut = ("put", 4, 50, 2), ("cut", 4, None, 5)
        self.entry, self.back = ("put", "cut", 0, True), ("cut", "put", 0, False)
        self.table = Table(TWO, barred(TWO))

    def test_none(self):
        for table in (self.table, natural(TWO)):
            self.assertEqual(table.behind(self.put, None), self.put)
            self.assertEqual(table.behind(self.cut, None), self.cut)
            self.assertIsNone(table.behind(None, self.put))
            self.assertIsNone(table.behind(None, self.cut))
            self.assertIsNone(table.behind(None, None))

    def test_the_value_none(self):
        self.assertIsNone(self.table.behind(self.put, self.cut))
        self.assertIsNone(self.table.behind(self.cut, self.put))

    def test_each_value(self):
        for shift in range(-2, 3):
            table = self.table.with_entry(self.entry, ("put", shift)).with_entry(self.back, ("cut", shift))
            self.assertEqual(table.behind(self.put, self.cut), ("put", 4 + shift, 50, 2))
            self.assertEqual(table.behind(self.cut, self.put), ("cut", 4 + shift, None, 5))

    def test_another_kind_without_a_letter(self):
        table = self.table.with_entry(self.entry, ("cut", 1))
        self.assertEqual(table.behind(self.put, self.cut), ("cut", 5, None, 2))

    def test_another_kind_with_a_letter(self):
        table = Table(FOUR, barred(FOUR)).with_entry(("put", "cut", 0, True), ("set", -1))
        self.assertEqual(table.behind(self.put, self.cut), ("set", 3, 50, 2))

    def test_the_value_is_that_of_the_entry(self):
        table = self.table.with_entry(self.entry, ("put", 2))
        self.assertEqual(table.behind(self.put, self.cut), ("put", 6, 50, 2))
        self.assertIsNone(table.behind(("put", 4, 50, 6), self.cut))
        self.assertIsNone(table.behind(("put", 5, 50, 2), self.cut))
        self.assertIsNone(table.behind(("put", 4, 50, 2), ("put", 4, 51, 5)))

    def test_far_places(self):
        table = self.table.with_entry(("put", "cut", 3, True), ("put", 1)).with_entry(
            ("put", "cut", -3, True), ("put", -2))
        for far in (3, 4, 9, 10 ** 20):
            self.assertEqual(table.behind(("put", 4 + far, 50, 0), self.cut), ("put", 5 + far, 50, 0))
            self.assertEqual(table.behind(("put", 4 - far, 50, 0), self.cut), ("put", 2 - far, 50, 0))
        self.assertIsNone(table.behind(("put", 6, 50, 0), self.cut))
        self.assertIsNone(table.behind(("put", 2, 50, 0), self.cut))

    def test_whether_a_form_can_be_done_is_not_asked(self):
        table = self.table.with_entry(self.entry, ("put", -2))
        self.assertEqual(table.behind(("put", 0, 50, 0), ("cut", 0, None, 1)), ("put", -2, 50, 0))
        self.assertEqual(table.behind(("put", -9, 50, 0), ("cut", -9, None, 1)), ("put", -11, 50, 0))

    def test_letters_of_both_may_be_the_same(self):
        self.assertEqual(natural(TWO).behind(("put", 4, 50, 0), ("put", 1, 50, 1)), ("put", 5, 50, 0))

    def test_what_is_no_change(self):
        for change in (0, "put", (), ["cut", 4, None, 5], ("swap", 4, None, 5), ("cut", 4, None), ("cut", 4, 9, 5),
                       ("put", 4, None, 5), ("put", 4, True, 5), ("put", True, 9, 5), ("put", 4, 9, True),
                       ("put", 4, 9, -1), ("cut", False, None, 5), ("cut", 4, None, 5, 0), (["cut"], 4, None, 5)):
            with self.subTest(change=change):
                for other in (self.put, None, change, 7):
                    self.assertEqual(raised(BadChange, self.table.behind, change, other).place, 0)
                for one in (self.put, None):
                    self.assertEqual(raised(BadChange, self.table.behind, one, change).place, 1)

    def test_two_changes_of_one_hand(self):
        raised(SameHand, self.table.behind, self.put, ("cut", 4, None, 2))
        raised(SameHand, natural(TWO).behind, self.put, self.put)

    def test_what_is_no_change_is_told_ahead_of_one_hand(self):
        self.assertEqual(raised(BadChange, self.table.behind, ("put", 4, None, 2), ("cut", 4, None, 2)).place, 0)
        self.assertEqual(raised(BadChange, self.table.behind, ("put", 4, 9, 2), ("cut", 4, 9, 2)).place, 1)


class WithEntry(unittest.TestCase):
    def setUp(self):
        self.table = natural(TWO)
        self.entry = ("put", "cut", 0, True)

    def test_only_this_entry_has_another_value(self):
        for value in (None, ("cut", -2), ("put", 2), ("put", 0)):
            other = self.table.with_entry(self.entry, value)
            expected = dict(natural(TWO).told)
            expected[self.entry] = value
            self.assertIsInstance(other, Table)
            self.assertEqual(other.told, expected)
            self.assertEqual(list(other.told), entries(["cut", "put"]))
            self.assertEqual(other.kinds, TWO)

    def test_its_table_is_left_as_it_was(self):
        other = self.table.with_entry(self.entry, None)
        self.assertEqual(self.table, natural(TWO))
        self.assertEqual(self.table.told[self.entry], ("put", 0))
        other.told[self.entry] = ("put", 1)
        self.assertEqual(self.table.told[self.entry], ("put", 0))

    def test_each_entry_and_all_its_values(self):
        for entry in entries(["cut", "put"]):
            for value in values_of(TWO, entry):
                self.assertEqual(self.table.with_entry(entry, value).told[entry], value)

    def test_what_is_no_entry(self):
        for entry in NO_ENTRIES:
            with self.subTest(entry=entry):
                self.assertEqual(raised(BadTable, self.table.with_entry, entry, None).entry, entry)
                self.assertEqual(raised(BadTable, self.table.with_entry, entry, "none").entry, entry)

    def test_what_is_no_value(self):
        for entry in (self.entry, ("cut", "put", 3, False)):
            for value in NO_VALUES:
                with self.subTest(entry=entry, value=value):
                    self.assertEqual(raised(BadTable, self.table.with_entry, entry, value).entry, entry)

    def test_a_kind_with_a_letter_where_the_first_one_has_none(self):
        for entry in (("cut", "put", 0, True), ("cut", "cut", -3, False)):
            self.assertEqual(raised(BadTable, self.table.with_entry, entry, ("put", 0)).entry, entry)

    def test_a_refused_call_changes_nothing(self):
        raised(BadTable, self.table.with_entry, self.entry, ("cut", 3))
        raised(BadTable, self.table.with_entry, ("put", "cut", 4, True), None)
        self.assertEqual(self.table, natural(TWO))


class Told(unittest.TestCase):
    def assert_bad(self, told, entry):
        self.assertEqual(raised(BadTable, Table, TWO, told).entry, entry)

    def test_kinds_and_told_ascending(self):
        told = {entry: None for entry in reversed(entries(["cut", "put"]))}
        told["put", "cut", 1, False] = ("cut", -2)
        table = Table(TWO, told)
        self.assertEqual(table.kinds, TWO)
        self.assertEqual(list(table.told), entries(["cut", "put"]))
        self.assertEqual(table.told, told)
        self.assertEqual(table.told["put", "cut", 1, False], ("cut", -2))

    def test_tables_for_one_to_four_kinds(self):
        for kinds, many in ((Kinds({"cut": CUT}), 14), (TWO, 56), (FOUR, 224)):
            self.assertEqual(len(Table(kinds, barred(kinds)).told), many)

    def test_what_is_no_dict(self):
        for told in (None, [], (), list(barred(TWO).items()), tuple(barred(TWO)), "told", 1, natural(TWO)):
            with self.subTest(told=told):
                self.assert_bad(told, None)

    def test_the_first_entry_that_lacks(self):
        self.assert_bad({}, ("cut", "cut", -3, False))
        for entry in entries(["cut", "put"]):
            told = barred(TWO)
            del told[entry]
            self.assert_bad(told, entry)
            told.pop(("put", "put", 3, True), None)
            self.assert_bad(told, entry)

    def test_the_first_entry_that_has_no_value_of_it(self):
        for value in NO_VALUES:
            for entry in (("cut", "put", 2, False), ("put", "cut", -1, True)):
                with self.subTest(entry=entry, value=value):
                    told = barred(TWO)
                    told["put", "put", 0, True] = value
                    told[entry] = value
                    self.assert_bad(told, entry)

    def test_a_kind_with_a_letter_where_the_first_one_has_none(self):
        told = barred(TWO)
        told["put", "cut", 0, False] = ("put", 0)
        Table(TWO, told)
        told["cut", "put", 3, True] = ("put", 0)
        self.assert_bad(told, ("cut", "put", 3, True))

    def test_one_that_lacks_and_one_that_has_no_value(self):
        told = barred(TWO)
        del told["cut", "put", 0, True]
        told["put", "put", 0, True] = ("put", 3)
        self.assert_bad(told, ("cut", "put", 0, True))
        told["cut", "put", 0, False] = "none"
        self.assert_bad(told, ("cut", "put", 0, False))

    def test_others(self):
        for other in NO_ENTRIES:
            if isinstance(other, (list, dict)) or isinstance(other, tuple) and any(isinstance(x, list) for x in other):
                continue
            told = barred(TWO)
            if other in told:
                continue
            told[other] = None
            with self.subTest(other=other):
                self.assert_bad(told, None)

    def test_others_come_behind_what_lacks_and_what_has_no_value(self):
        told = barred(TWO)
        told["aaa"] = told["cut", "cut", 4, True] = None
        self.assert_bad(told, None)
        told["put", "put", 3, True] = ("cut", 3)
        self.assert_bad(told, ("put", "put", 3, True))
        del told["put", "put", 3, False]
        self.assert_bad(told, ("put", "put", 3, False))

    def test_entries_of_other_kinds_are_others(self):
        self.assert_bad(barred(FOUR), None)
        self.assertEqual(raised(BadTable, Table, FOUR, barred(TWO)).entry, ("cut", "set", -3, False))

    def test_a_number_is_no_boolean_and_a_boolean_no_number(self):
        told = barred(TWO)
        del told["put", "cut", 0, True]
        told["put", "cut", 0, 1] = None
        self.assert_bad(told, ("put", "cut", 0, True))
        told = barred(TWO)
        del told["put", "cut", 1, False]
        told["put", "cut", True, False] = None
        self.assert_bad(told, ("put", "cut", 1, False))

    def test_what_are_no_kinds_comes_first(self):
        for kinds in (None, {}, TWO.told, "put", natural(TWO)):
            for told in (None, {}, barred(TWO)):
                with self.subTest(kinds=kinds, told=told):
                    self.assertIsNone(raised(BadKinds, Table, kinds, told).name)

    def test_a_dict_changed_behind_it_changes_nothing(self):
        told = barred(TWO)
        table = Table(TWO, told)
        told["put", "put", 0, True] = ("put", 1)
        del told["cut", "cut", 0, True]
        self.assertEqual(table.told, barred(TWO))
        self.assertIsNone(table.behind(("put", 4, 50, 0), ("put", 4, 51, 1)))

    def test_kinds_changed_behind_it_change_nothing(self):
        kinds = Kinds({"put": PUT, "cut": CUT})
        tables = [Table(kinds, barred(kinds)), natural(kinds)]
        kinds.told["cut"] = DROP
        for table in tables:
            self.assertEqual(table.kinds, TWO)

    def test_the_dict_is_not_changed(self):
        told = barred(TWO)
        del told["cut", "cut", -3, False]
        told["cut", "cut", -3, False] = None
        order = list(told.items())
        Table(TWO, told)
        self.assertEqual(list(told.items()), order)
        told["others"] = 1
        raised(BadTable, Table, TWO, told)
        self.assertEqual(list(told.items()), order + [("others", 1)])

    def test_equal(self):
        self.assertTrue(natural(TWO) == natural(Kinds({"cut": CUT, "put": PUT})))
        self.assertFalse(natural(TWO) != natural(TWO))
        self.assertTrue(natural(TWO) == Table(TWO, natural(TWO).told))

    def test_not_equal(self):
        table = natural(TWO)
        others = [table.with_entry(("put", "put", 0, True), None), natural(FOUR), Table(TWO, barred(TWO)),
                  natural(Kinds({"put": PUT, "cuts": CUT})), table.told, TWO, None, 1]
        for other in others:
            with self.subTest(other=other):
                self.assertFalse(table == other)
                self.assertTrue(table != other)

    def test_tables_of_other_kinds_are_others_even_if_the_same_is_told(self):
        cut, drop = Kinds({"a": CUT}), Kinds({"a": DROP})
        self.assertFalse(Table(cut, barred(cut)) == Table(drop, barred(drop)))
        self.assertTrue(Table(cut, barred(cut)) != Table(drop, barred(drop)))


if __name__ == "__main__":
    unittest.main()
