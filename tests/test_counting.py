"""Counts, and kinds that go together: points [13] and [14]."""

import unittest
from itertools import combinations, product
from random import Random

from changetables.anyhands import judge_any
from changetables.counting import count_any, mirrored, needs_hands, tables_any, tables_two, together
from changetables.errors import BadKinds, BadNumber, BadTable
from changetables.fillings import count_two, judge_filling
from changetables.kinds import Kinds
from changetables.tables import Table, natural
from changetables.twohands import judge_two
from reference import (ALWAYS, ROWS, SOMETIMES, bent, entries_of, good_by_trying, good_tables, kinds_of, raised,
                       some_turn, turned_entry, values_for)

PUTS, BOTH = kinds_of("put"), kinds_of("put cut")
NO_KINDS = [None, 0, {}, "put", {"put": (0, ("new",))}, natural(PUTS)]
NO_PARTS = [None, 0, [], "put", (("put", "put", 0, True), None), natural(PUTS)]
SAME, LESS = ("put", "put", 0, False), ("put", "put", 0, True)
WRONG = [(("put", "put", 0, 1), None), (("put", "put", 4, True), None), (("put", "cut", 0, True), None), (0, None),
         (LESS, ("put", 3)), (LESS, "put"), (LESS, ("cut", 0)), (LESS, ["put", 0]), (LESS, ("put", True))]

# All sets of more than two kinds for which some table lets all two changes meet well.
MORE = ["cut drop join", "cut drop set", "cut join set", "cut put set", "cut put swap", "cut set swap",
        "cut drop join set", "cut put set swap"]


def value_key(value):
    """What puts None ahead of pairs."""
    return (0,) if value is None else (1, value)


def all_good(kinds, part):
    """All tables with the values of a part by which all two changes meet well, in their order, by trying."""
    pairs = {entry: good_by_trying(kinds, entry) for entry in entries_of(kinds) if entry[3]}
    found = []
    for chosen in product(*pairs.values()):
        told = {}
        for entry, (value, worth) in zip(pairs, chosen):
            told[entry], told[turned_entry(entry)] = value, worth
        if all(told[entry] == part[entry] for entry in part):
            found.append({entry: told[entry] for entry in entries_of(kinds)})
    found.sort(key=lambda told: [value_key(value) for value in told.values()])
    return [Table(kinds, told) for told in found]


def some_part(random, table, many):
    """The values that a table has for so many entries, drawn."""
    return {entry: table.told[entry] for entry in random.sample(entries_of(table.kinds), many)}


class Mirrored(unittest.TestCase):
    def test_each_entry(self):
        random = Random(31)
        for words in ("put", "put cut", "cut set drop", "aa bb cc move"):
            table = bent(random, kinds_of(words), 9)
            found = mirrored(table)
            self.assertEqual(found.kinds, table.kinds)
            for one, other, gap, less in entries_of(table.kinds):
                self.assertEqual(found.told[one, other, gap, less], table.told[one, other, gap, not less])

    def test_twice(self):
        random = Random(32)
        for words in ("put", "put cut", "cut set drop"):
            table = bent(random, kinds_of(words), 9)
            self.assertEqual(mirrored(mirrored(table)), table)
            self.assertNotEqual(mirrored(table), table)

    def test_it_does_exactly_if_the_table_does(self):
        random = Random(33)
        tables = [table for words in SOMETIMES for table in good_tables(random, kinds_of(words), 2)]
        tables += [bent(random, table.kinds, 1) for table in tables]
        answers = []
        for table in tables:
            self.assertEqual(bool(judge_two(mirrored(table))), bool(judge_two(table)))
            self.assertEqual(bool(judge_any(mirrored(table))), bool(judge_any(table)))
            answers.append((bool(judge_two(table)), bool(judge_any(table))))
        self.assertEqual(sorted(set(answers)), [(False, False), (True, False), (True, True)])

    def test_the_table_stays(self):
        table = natural(PUTS)
        told = dict(table.told)
        mirrored(table).told.clear()
        self.assertEqual(table.told, told)

    def test_errors(self):
        for table in (None, 0, {}, PUTS, natural(PUTS).told):
            self.assertIsNone(raised(BadTable, mirrored, table).entry)


class TablesTwo(unittest.TestCase):
    def test_against_going_through_all_good_values(self):
        for words in SOMETIMES:
            kinds = kinds_of(words)
            wanted = all_good(kinds, {})
            self.assertEqual(len(wanted), count_two(kinds, {}))
            for most in (1, 2, 3, 7, 50, 100):
                with self.subTest(words, most=most):
                    self.assertEqual(tables_two(kinds, {}, most), wanted[:most])

    def test_with_parts(self):
        random = Random(34)
        for words in ("swap", "put cut", "cut swap", "put set", "set swap"):
            kinds = kinds_of(words)
            wanted = all_good(kinds, {})
            for _ in range(20):
                part = some_part(random, random.choice(wanted), random.randrange(1, 12))
                having = [table for table in wanted if all(table.told[entry] == part[entry] for entry in part)]
                self.assertGreater(len(having), 0)
                for most in (1, 5, 100):
                    self.assertEqual(tables_two(kinds, part, most), having[:most])

    def test_of_very_many_tables_the_first(self):
        for words in MORE[::2]:
            kinds = kinds_of(words)
            found = tables_two(kinds, {}, 100)
            keys = [[value_key(value) for value in table.told.values()] for table in found]
            self.assertEqual(keys, sorted(keys))
            self.assertEqual(len({tuple(key) for key in keys}), 100)
            self.assertTrue(all(judge_two(table) for table in found[::9]))
            self.assertEqual(tables_two(kinds, {}, 13), found[:13])
            # None is ahead of them that has one value taken from an earlier one of the good ones.
            first = {}
            for entry in entries_of(kinds):
                if turned_entry(entry) in first:
                    pairs = good_by_trying(kinds, turned_entry(entry))
                    first[entry] = [worth for value, worth in pairs if value == first[turned_entry(entry)]][0]
                else:
                    first[entry] = good_by_trying(kinds, entry)[0][0]
            self.assertEqual(found[0].told, first)

    def test_parts_that_no_table_has(self):
        self.assertEqual(tables_two(PUTS, {SAME: None}, 100), [])
        self.assertEqual(tables_two(PUTS, {SAME: ("put", 0), LESS: ("put", 0)}, 100), [])
        self.assertEqual(tables_two(kinds_of("drop"), {}, 100), [])
        self.assertEqual(tables_two(kinds_of("aa bb cc move"), {}, 1), [])

    def test_the_part_stays_and_the_list_is_new(self):
        part = {SAME: ("put", 1)}
        found = tables_two(PUTS, part, 9)
        found.append(1)
        self.assertEqual(part, {SAME: ("put", 1)})
        self.assertEqual(len(tables_two(PUTS, part, 9)), 1)
        self.assertEqual(tables_two(PUTS, part, 9)[0].told[LESS], ("put", 0))

    def test_errors(self):
        for kinds in NO_KINDS:
            self.assertIsNone(raised(BadKinds, tables_two, kinds, None, None).name)
        for part in NO_PARTS:
            self.assertIsNone(raised(BadTable, tables_two, PUTS, part, None).entry)
        for entry, value in WRONG:
            part = {SAME: ("put", 1), entry: value, ("put", "put", 9, True): None}
            self.assertEqual(raised(BadTable, tables_two, PUTS, part, 0).entry, entry)
        for most in (0, -1, 101, 1000, None, True, "1", [1], (1,)):
            raised(BadNumber, tables_two, PUTS, {}, most)
            raised(BadNumber, tables_two, kinds_of("drop"), {}, most)
        for most in (1, 100):
            tables_two(PUTS, {}, most)


class AnyTables(unittest.TestCase):
    def check(self, kinds, part):
        """Hold the answers against judging all tables that let all two changes meet well."""
        wanted = [table for table in tables_two(kinds, part, 100) if judge_any(table)]
        self.assertEqual(tables_any(kinds, part), wanted)
        self.assertEqual(count_any(kinds, part), len(wanted))
        return len(wanted)

    def test_one_kind_by_going_through_all_three_changes(self):
        for name in ROWS:
            kinds = kinds_of(name)
            wanted = [table for table in all_good(kinds, {}) if not some_turn(kinds, table.told, 4)]
            with self.subTest(name):
                self.assertEqual(tables_any(kinds, {}), wanted)
                self.assertEqual(count_any(kinds, {}), len(wanted))

    def test_one_and_two_kinds(self):
        counts = {words: self.check(kinds_of(words), {}) for words in SOMETIMES}
        self.assertEqual({words: many for words, many in counts.items() if many > 0},
                         {"put": 2, "cut": 1, "set": 2, "put set": 6, "cut set": 3, "cut drop": 1})

    def test_parts(self):
        random = Random(35)
        for words in ALWAYS:
            kinds = kinds_of(words)
            tables = tables_two(kinds, {}, 100)
            found = [self.check(kinds, some_part(random, random.choice(tables), random.randrange(1, 14)))
                     for _ in range(12)]
            self.assertGreater(max(found), 0)

    def test_parts_of_three_and_four_kinds(self):
        random = Random(36)
        for words in MORE:
            kinds = kinds_of(words)
            found = judge_filling(kinds, {}, 3)
            for _ in range(2):
                told = found.table.told if found else random.choice(tables_two(kinds, {}, 50)).told
                for many in (40, 20, 10, 5, 0):
                    asked = random.sample(sorted(told), many)
                    part = {entry: told[entry] for entry in told if entry not in asked and turned_entry(entry) not in asked}
                    if count_two(kinds, part) <= 40:
                        break
                with self.subTest(words):
                    self.assertEqual(self.check(kinds, part) > 0, bool(judge_filling(kinds, part, 3)))

    def test_parts_that_no_table_has(self):
        for part in ({SAME: None}, {SAME: ("put", 0), LESS: ("put", 0)}):
            self.assertEqual((count_any(PUTS, part), tables_any(PUTS, part)), (0, []))
        for words in ("drop", "swap", "put cut", "drop pull"):
            self.assertEqual((count_any(kinds_of(words), {}), tables_any(kinds_of(words), {})), (0, []))

    def test_errors(self):
        for asked in (count_any, tables_any):
            for kinds in NO_KINDS:
                self.assertIsNone(raised(BadKinds, asked, kinds, None).name)
            for part in NO_PARTS:
                self.assertIsNone(raised(BadTable, asked, PUTS, part).entry)
            for entry, value in WRONG:
                part = {SAME: ("put", 1), entry: value, ("put", "put", 9, True): None}
                self.assertEqual(raised(BadTable, asked, PUTS, part).entry, entry)


class Together(unittest.TestCase):
    def groups(self, names, most):
        """All ascending tuples of at most so many names."""
        return sorted(group for many in range(1, most + 1) for group in combinations(sorted(names), many))

    def check(self, words, kinds=None, names=None):
        """Hold the answers against the lists of kinds that have tables; the names may be others."""
        kinds, names = kinds or kinds_of(words), names or {word: word for word in words.split()}
        two = [tuple(sorted(names[word] for word in told.split())) for told in SOMETIMES + MORE
               if set(told.split()) <= set(words.split())]
        greatest = sorted(group for group in two if not any(set(group) < set(other) for other in two))
        self.assertEqual(together(kinds, 2), greatest)
        always = [tuple(sorted(names[word] for word in told.split())) for told in ALWAYS
                  if set(told.split()) <= set(words.split())]
        self.assertEqual(together(kinds, 3), sorted(always))

    def test_one_and_two_kinds(self):
        for many in (1, 2):
            for group in combinations(sorted(ROWS), many):
                with self.subTest(group):
                    self.check(" ".join(group))

    def test_three_and_four_kinds(self):
        for words in ["put cut swap", "drop join set", "put set swap cut", "cut drop join set", "cut drop join put",
                      "put swap pull move", "aa bb cc cut", "set swap join put", "drop put set swap"]:
            with self.subTest(words):
                self.check(words)

    def test_drawn(self):
        random = Random(37)
        for _ in range(25):
            self.check(" ".join(random.sample(sorted(ROWS), random.randrange(3, 5))))

    def test_against_fillings(self):
        for words in ("put cut swap set", "cut drop join set", "set swap put join"):
            kinds = kinds_of(words)
            for many in (2, 3):
                going = [group for group in self.groups(kinds.names(), 4)
                         if judge_filling(Kinds({name: kinds[name] for name in group}), {}, many)]
                if many == 2:
                    going = [group for group in going if not any(set(group) < set(other) for other in going)]
                else:
                    going = [group for group in going if len(group) <= 2]
                self.assertEqual(together(kinds, many), going)

    def test_other_names(self):
        names = {"put": "c", "cut": "b", "swap": "a", "set": "ab"}
        kinds = Kinds({names[word]: ROWS[word] for word in names})
        self.check("put cut swap set", kinds, names)
        self.assertEqual(together(kinds, 3), [("ab",), ("ab", "b"), ("ab", "c"), ("b",), ("c",)])

    def test_the_values_are_of_just_these_kinds(self):
        # With join and cut beside it drop does, by values of theirs, alone and with join it does not.
        self.assertEqual(together(kinds_of("drop join"), 2), [])
        self.assertEqual(together(kinds_of("drop join cut"), 2), [("cut", "drop", "join")])
        self.assertEqual(together(kinds_of("drop cut"), 3), [("cut",), ("cut", "drop")])

    def test_errors(self):
        for kinds in NO_KINDS:
            self.assertIsNone(raised(BadKinds, together, kinds, 5).name)
        for many in (0, 1, 4, -2, None, True, "2", [2], (3,)):
            raised(BadNumber, together, PUTS, many)


class NeedsHands(unittest.TestCase):
    def test_all_kinds(self):
        for name in ROWS:
            kinds = kinds_of(name)
            wanted = not any(mirrored(table) == table for table in all_good(kinds, {}))
            with self.subTest(name):
                self.assertIs(needs_hands(kinds, name), wanted)

    def test_kinds_that_need_hands_and_kinds_that_do_not(self):
        self.assertEqual([needs_hands(kinds_of(name), name) for name in ("put", "set", "cut", "swap")],
                         [True, True, False, False])

    def test_other_kinds_make_no_difference(self):
        kinds = kinds_of("put cut drop swap")
        self.assertEqual([needs_hands(kinds, name) for name in ("put", "cut", "drop", "swap")],
                         [True, False, True, False])

    def test_errors(self):
        for kinds in NO_KINDS:
            self.assertIsNone(raised(BadKinds, needs_hands, kinds, "put").name)
        for name in ("cut", "", None, 0, ("put",), "puts", True):
            self.assertEqual(raised(BadKinds, needs_hands, PUTS, name).name, name)
        self.assertEqual(raised(BadKinds, needs_hands, PUTS, ["put"]).name, ["put"])


class Values(unittest.TestCase):
    def test_part_of_all_entries(self):
        for words in ("put", "put cut"):
            kinds = kinds_of(words)
            table = natural(kinds)
            self.assertEqual(tables_two(kinds, table.told, 5), [table])
            self.assertEqual(tables_any(kinds, table.told), [table] if words == "put" else [])

    def test_each_value_of_one_entry(self):
        for entry in entries_of(BOTH):
            for value in values_for(BOTH, entry):
                found = tables_two(BOTH, {entry: value}, 100)
                self.assertEqual(len(found), count_two(BOTH, {entry: value}))
                self.assertTrue(all(table.told[entry] == value for table in found))


if __name__ == "__main__":
    unittest.main()
