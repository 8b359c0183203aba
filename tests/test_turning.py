"""Changes that are taken back, other names and hands, turned texts: points [23] and [24]."""

import unittest
from itertools import combinations
from random import Random

from changetables.anyhands import judge_any
from changetables.changes import done, done_all
from changetables.counting import mirrored
from changetables.errors import BadChange, BadKinds, BadTable, BadText, CannotDo
from changetables.houses import closing, judge_house, run
from changetables.kinds import Kinds
from changetables.tables import Table, natural
from changetables.turning import exchanged, kind_back, list_back, renamed, taken_back, turned, turned_kinds
from changetables.twohands import judge_two
from plain import draw_house
from reference import ROWS, SOMETIMES, bent, changes_to, done_to, entries_of, good_tables, kinds_of, raised

KINDS = kinds_of("put cut join swap")
TABLE = natural(kinds_of("put cut"))
NO_KINDS = [None, 0, {}, "put", {"put": (0, ("new",))}, TABLE]
NO_TABLES = [None, 0, {}, "table", KINDS, TABLE.told]
NO_TEXTS = [None, [1, 2], "ab", (1, 1), (1, "2"), (1, True), 5]
NO_CHANGES = [0, "put", (), ["put", 0, 5, 0], ("put", 0, 5), ("put", 0, 5, 0, 0), ("pot", 0, 5, 0), (None, 0, 5, 0),
              ("put", True, 5, 0), ("put", 0, None, 0), ("put", 0, "5", 0), ("put", 0, 5, -1), ("put", 0, 5, True),
              ("cut", 0, 5, 0), ("cut", 0, None, None)]
TEXT = (10, 11, 12, 13)

# Which kind takes which one back; the others have none.
BACK = {"put": "cut", "cut": "put", "set": "set", "swap": "swap", "pull": "move", "move": "pull"}


def all_kinds():
    """All sets of one to four kinds, some of the last ones left out."""
    groups = [group for many in (1, 2, 3) for group in combinations(sorted(ROWS), many)]
    return [kinds_of(" ".join(group)) for group in groups + list(combinations(sorted(ROWS), 4))[::7]]


def way_back(kinds, text, change):
    """The change of the same hand that leads back to a text, found by trying all; None, if there is none."""
    there = done_to(kinds, text, change)
    found = [back for letter in text for back in changes_to(kinds, len(there), letter, change[3])
             if done_to(kinds, there, back) == text]
    return found[0] if found else None


class TakenBack(unittest.TestCase):
    def test_all_kinds_by_trying(self):
        for kinds in all_kinds():
            for change in changes_to(kinds, len(TEXT), 50, 3):
                self.assertEqual(taken_back(kinds, TEXT, change), way_back(kinds, TEXT, change))

    def test_all_that_there_are(self):
        kinds = [Kinds({"one": ROWS[name], "two": ROWS[BACK[name]]}) if BACK.get(name, name) != name
                 else Kinds({"one": ROWS[name]}) for name in ROWS]
        for name, told in zip(ROWS, kinds):
            wanted = None if name not in BACK else "one" if BACK[name] == name else "two"
            with self.subTest(name):
                self.assertEqual(kind_back(told, "one"), wanted)
                for change in changes_to(told, 5, 50, 1):
                    if change[0] == "one":
                        back = taken_back(told, (4, 5, 6, 7, 8), change)
                        if wanted is None:
                            self.assertIsNone(back)
                        else:
                            self.assertEqual((back[0], back[1], back[3]), (wanted, change[1], 1))
                            there = done(told, (4, 5, 6, 7, 8), change)
                            self.assertEqual(done(told, there, back), (4, 5, 6, 7, 8))
                            self.assertEqual(taken_back(told, there, back), change)

    def test_the_change(self):
        self.assertEqual(taken_back(KINDS, (4, 5, 6), ("cut", 1, None, 0)), ("put", 1, 5, 0))
        self.assertEqual(taken_back(KINDS, (4, 5, 6), ("put", 3, 9, 7)), ("cut", 3, None, 7))
        self.assertEqual(taken_back(KINDS, (4, 5, 6), ("swap", 1, None, 2)), ("swap", 1, None, 2))
        self.assertIsNone(taken_back(KINDS, (4, 5, 6), ("join", 1, 9, 2)))
        self.assertIsNone(taken_back(kinds_of("cut"), (4, 5, 6), ("cut", 1, None, 2)))
        self.assertEqual(taken_back(kinds_of("pull move"), (4, 5), ("pull", 0, 9, 2)), ("move", 0, 5, 2))
        self.assertEqual(taken_back(kinds_of("set"), (4, 5), ("set", 0, -9, 2)), ("set", 0, 4, 2))

    def test_errors(self):
        for kinds in NO_KINDS:
            self.assertIsNone(raised(BadKinds, taken_back, kinds, None, None).name)
        for text in NO_TEXTS:
            raised(BadText, taken_back, KINDS, text, None)
        for change in [None, *NO_CHANGES]:
            self.assertEqual(raised(BadChange, taken_back, KINDS, TEXT, change).place, 0)
        for change in (("put", 5, 1, 0), ("put", -1, 1, 0), ("cut", 4, None, 0), ("put", 0, 10, 0), ("join", 3, 5, 0),
                       ("join", 0, 10, 0)):
            self.assertEqual(raised(CannotDo, taken_back, KINDS, TEXT, change).place, 0)


class KindBack(unittest.TestCase):
    def test_all_kinds(self):
        for kinds in all_kinds():
            for name in kinds.names():
                change = [change for change in changes_to(kinds, len(TEXT), 50, 0) if change[0] == name][0]
                back = way_back(kinds, TEXT, change)
                self.assertEqual(kind_back(kinds, name), None if back is None else back[0])

    def test_errors(self):
        for kinds in NO_KINDS:
            self.assertIsNone(raised(BadKinds, kind_back, kinds, 0).name)
        for name in ("set", "", None, 0, ("put",), ["put"], True):
            self.assertEqual(raised(BadKinds, kind_back, KINDS, name).name, name)


class ListBack(unittest.TestCase):
    def test_drawn_lists(self):
        random = Random(61)
        found = []
        for _ in range(400):
            kinds = kinds_of(" ".join(random.sample(sorted(ROWS), random.randrange(1, 5))))
            text, changes = tuple(range(random.randrange(6))), []
            there, wanted = text, []
            for number in range(random.randrange(7)):
                able = changes_to(kinds, len(there), 50 + number, random.randrange(3))
                if able and random.random() < 0.8:
                    changes.append(random.choice(able))
                    wanted.insert(0, way_back(kinds, there, changes[-1]) if there else taken_back(kinds, there, changes[-1]))
                    there = done(kinds, there, changes[-1])
                else:
                    changes.append(None)
            steps = list_back(kinds, text, random.choice((list, tuple))(changes))
            self.assertEqual(steps, None if None in wanted else wanted)
            if steps is not None:
                self.assertIs(type(steps), list)
                self.assertEqual(done_all(kinds, there, steps), text)
            found.append(steps)
        self.assertGreater(found.count(None), 20)
        self.assertGreater(len([steps for steps in found if steps]), 20)

    def test_none_in_a_list(self):
        self.assertEqual(list_back(KINDS, (4,), [None, ("cut", 0, None, 1), None]), [("put", 0, 4, 1)])
        for changes in ([], (), [None], (None, None)):
            self.assertEqual(list_back(KINDS, (4, 5), changes), [])

    def test_one_that_has_no_way_back(self):
        put, join = ("put", 0, 9, 0), ("join", 0, 8, 0)
        for changes in ([join], [put, join], [join, put], [None, join, None]):
            self.assertIsNone(list_back(KINDS, (4, 5), changes))

    def test_what_is_given_stays(self):
        changes = [("put", 0, 9, 0), None]
        list_back(KINDS, (4, 5), changes).append(1)
        self.assertEqual(changes, [("put", 0, 9, 0), None])

    def test_errors(self):
        for kinds in NO_KINDS:
            self.assertIsNone(raised(BadKinds, list_back, kinds, None, None).name)
        for text in NO_TEXTS:
            raised(BadText, list_back, KINDS, text, None)
        for changes in (None, 0, {}, "put", iter([])):
            self.assertIsNone(raised(BadChange, list_back, KINDS, TEXT, changes).place)
        for change in NO_CHANGES:
            # Also behind one that cannot be done, and one that has no way back.
            self.assertEqual(raised(BadChange, list_back, KINDS, TEXT, [("cut", 9, None, 0), change, 0]).place, 1)
            self.assertEqual(raised(BadChange, list_back, KINDS, TEXT, [("join", 0, 9, 0), None, change]).place, 2)
        for changes, number in (
                ([("cut", 4, None, 0)], 0), ([None, ("cut", -1, None, 0)], 1), ([("put", 0, 9, 0), ("put", 0, 9, 1)], 1),
                ([("cut", 3, None, 0), ("cut", 3, None, 0), ("cut", 9, None, 0)], 1),
                ([("join", 0, 9, 0), ("cut", 3, None, 0)], 1), ([("put", 0, 12, 0)], 0)):
            self.assertEqual(raised(CannotDo, list_back, KINDS, TEXT, changes).place, number)


class Renamed(unittest.TestCase):
    NAMES = {"put": "x", "cut": "zz", "swap": "aaaaaaaa", "set": "cut", "drop": "put", "join": "m"}

    def names_for(self, kinds):
        """Other names for the names of kinds."""
        return {name: self.NAMES[name] for name in kinds.told}

    def check(self, table, names):
        """Hold the table against each entry by itself."""
        found = renamed(table, names)
        self.assertEqual(found.kinds, Kinds({names[name]: kind for name, kind in table.kinds.told.items()}))
        for one, other, gap, less in entries_of(table.kinds):
            value = table.told[one, other, gap, less]
            wanted = None if value is None else (names[value[0]], value[1])
            self.assertEqual(found.told[names[one], names[other], gap, less], wanted)
        self.assertEqual(len(found.told), len(table.told))
        self.assertEqual(list(found.told), entries_of(found.kinds))
        self.assertEqual(renamed(found, {names[name]: name for name in names}), table)
        return found

    def test_each_entry_and_twice(self):
        random = Random(62)
        for words in ("put", "put cut", "cut set drop", "put cut swap set", "drop join"):
            table = bent(random, kinds_of(words), 9)
            self.check(table, self.names_for(table.kinds))
            self.check(table, {name: name for name in table.kinds.told})

    def test_names_that_are_exchanged(self):
        table = bent(Random(63), kinds_of("put cut"), 9)
        self.check(table, {"put": "cut", "cut": "put"})

    def test_two_and_any_number_do_as_by_the_table(self):
        random = Random(64)
        tables = [table for words in SOMETIMES for table in good_tables(random, kinds_of(words), 1)]
        for table in tables + [bent(random, table.kinds, 1) for table in tables]:
            found = renamed(table, self.names_for(table.kinds))
            self.assertEqual(bool(judge_two(found)), bool(judge_two(table)))
            self.assertEqual(bool(judge_any(found)), bool(judge_any(table)))
            self.assertEqual(bool(judge_house(found, 3)), bool(judge_house(table, 3)))

    def test_houses(self):
        random = Random(65)
        for words in ("put cut", "cut set", "put cut swap"):
            for table in good_tables(random, kinds_of(words), 3) + [bent(random, kinds_of(words), 5)]:
                names = self.names_for(table.kinds)
                text, steps, _ = draw_house(random, table, 3, 30)
                others = [(word, (names[told[0]], *told[1:]) if word == "does" else told) for word, told in steps]
                self.assertEqual(run(renamed(table, names), text, 3, others), run(table, text, 3, steps))
                self.assertEqual(closing(renamed(table, names), text, 3, others), closing(table, text, 3, steps))

    def test_what_is_given_stays(self):
        names, told = {"put": "a", "cut": "b"}, dict(TABLE.told)
        found = renamed(TABLE, names)
        found.told.clear()
        names["put"] = "c"
        self.assertEqual(TABLE.told, told)
        self.assertEqual(renamed(TABLE, {"put": "a", "cut": "b"}).kinds.names(), ["a", "b"])

    def test_errors(self):
        for table in NO_TABLES:
            self.assertIsNone(raised(BadTable, renamed, table, None).entry)
        for names in (None, 0, [], "ab", [("put", "a"), ("cut", "b")], {}, {"put": "a"}, {"cut": "b"},
                      {"put": "a", "cut": "b", "set": "c"}, {"put": "a", "set": "c"}, {"put": "a", "cut": "a"},
                      {"put": "a", "cut": ""}, {"put": "a", "cut": "B"}, {"put": "a", "cut": None},
                      {"put": "a", "cut": "abcdefghi"}, {"put": "a", "cut": 3}, {"put": "a", "cut": ["b"]},
                      {"put": "a", None: "b"}, {"put": "a", "cut": "a b"}, {"put": "a", "cut": "b1"}):
            self.assertIsNone(raised(BadKinds, renamed, TABLE, names).name)


class Exchanged(unittest.TestCase):
    def test_each_entry_and_twice(self):
        random = Random(66)
        for words in ("put", "put cut", "cut set drop"):
            table = bent(random, kinds_of(words), 9)
            found = exchanged(table)
            for one, other, gap, less in entries_of(table.kinds):
                self.assertEqual(found.told[one, other, gap, less], table.told[one, other, gap, not less])
            self.assertEqual(found.kinds, table.kinds)
            self.assertEqual(found, mirrored(table))
            self.assertEqual(exchanged(found), table)

    def test_two_and_any_number_do_as_by_the_table(self):
        random = Random(67)
        tables = [table for words in SOMETIMES for table in good_tables(random, kinds_of(words), 1)]
        for table in tables + [bent(random, table.kinds, 1) for table in tables]:
            self.assertEqual(bool(judge_two(exchanged(table))), bool(judge_two(table)))
            self.assertEqual(bool(judge_any(exchanged(table))), bool(judge_any(table)))

    def test_hands_the_other_way_round(self):
        random = Random(68)
        table = bent(random, kinds_of("put cut"), 9)
        for place in range(7):
            one, other = ("put", place, 50, 0), ("cut", 3, None, 1)
            form = table.behind(one, other)
            wanted = None if form is None else (*form[:3], 1)
            self.assertEqual(exchanged(table).behind((*one[:3], 1), (*other[:3], 0)), wanted)

    def test_houses_with_hands_in_the_other_order(self):
        random = Random(69)
        for table in [bent(random, kinds_of("put cut"), many) for many in (0, 2, 5)]:
            text, steps, play = draw_house(random, table, 3, 30)
            others = [(word, (*told[:3], 2 - told[3]) if word == "does" else 2 - told) for word, told in steps]
            end, found = run(table, text, 3, steps), run(exchanged(table), text, 3, others)
            if end is None:
                self.assertIsNone(found)
            else:
                self.assertEqual((found.text, found.texts, found.waiting, found.unheard),
                                 (end.text, end.texts[::-1], end.waiting[::-1], end.unheard[::-1]))

    def test_errors(self):
        for table in NO_TABLES:
            self.assertIsNone(raised(BadTable, exchanged, table).entry)


class Turned(unittest.TestCase):
    def test_all_kinds(self):
        for name, kind in ROWS.items():
            found = turned_kinds(Kinds({"one": kind}))
            self.assertEqual(found.names(), ["one"])
            self.assertEqual(found["one"][0], kind[0])
            for change in changes_to(Kinds({"one": kind}), len(TEXT), 50, 2):
                again = turned(Kinds({"one": kind}), TEXT, change)
                self.assertEqual((again[0], again[2], again[3]), (change[0], change[2], 2))
                self.assertEqual(done(found, TEXT[::-1], again), done(Kinds({"one": kind}), TEXT, change)[::-1])
                self.assertEqual(turned(found, TEXT[::-1], again), change)

    def test_several_kinds(self):
        for kinds in all_kinds()[::3]:
            found = turned_kinds(kinds)
            self.assertEqual(found.names(), kinds.names())
            self.assertEqual(turned_kinds(found), kinds)
            for text in ((), (4,), (4, 5), TEXT):
                for change in changes_to(kinds, len(text), 50, 1):
                    self.assertEqual(done(found, text[::-1], turned(kinds, text, change)), done(kinds, text, change)[::-1])

    def test_the_kinds(self):
        found = turned_kinds(kinds_of("put move pull cc")).told
        self.assertEqual(found, {"put": ROWS["put"], "move": ROWS["pull"], "pull": ROWS["move"], "cc": ROWS["aa"]})
        found = turned_kinds(kinds_of("bb swap join drop")).told
        self.assertEqual(found, {name: ROWS[name] for name in ("bb", "swap", "join", "drop")})

    def test_what_is_given_stays(self):
        kinds = kinds_of("move cut")
        turned_kinds(kinds).told.clear()
        self.assertEqual(kinds, kinds_of("move cut"))

    def test_errors(self):
        for kinds in NO_KINDS:
            self.assertIsNone(raised(BadKinds, turned_kinds, kinds).name)
            self.assertIsNone(raised(BadKinds, turned, kinds, None, None).name)
        for text in NO_TEXTS:
            raised(BadText, turned, KINDS, text, None)
        for change in [None, *NO_CHANGES]:
            self.assertEqual(raised(BadChange, turned, KINDS, TEXT, change).place, 0)
        for change in (("put", 5, 1, 0), ("put", -1, 1, 0), ("cut", 4, None, 0), ("put", 0, 10, 0), ("join", 3, 5, 0)):
            self.assertEqual(raised(CannotDo, turned, KINDS, TEXT, change).place, 0)


class Tables(unittest.TestCase):
    def test_a_renamed_table_is_one(self):
        found = renamed(TABLE, {"put": "b", "cut": "a"})
        self.assertIs(type(found), Table)
        self.assertEqual(found, natural(Kinds({"b": ROWS["put"], "a": ROWS["cut"]})))


if __name__ == "__main__":
    unittest.main()
