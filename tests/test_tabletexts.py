"""Texts of tables: point [25]."""

import re
import unittest
from itertools import permutations
from random import Random

from changetables.errors import BadKinds, BadTable
from changetables.houses import BadScript
from changetables.kinds import Kinds
from changetables.tables import Table, natural
from changetables.tabletexts import read_kinds, read_run, read_table, write_kinds, write_run, write_table
from plain import draw_house
from reference import ROWS, bent, kinds_of, raised, values_for

PUT = "kind put: 0 new\n"
CUT = "kind cut: 1\n"
BOTH = kinds_of("put cut")
RUN = "text 4 5\nhands 2\n"


class Wrong(Exception):
    """What cannot stand: a line and a column."""


def words_of(line):
    """The columns and the things of a line; what is none has no further ones behind it."""
    found, at = [], 0
    body = line.split("#")[0]
    while at < len(body):
        if body[at] == " ":
            at += 1
            continue
        match = re.compile("([a-z]+)|(-?[0-9]+)|(:)").match(body, at)
        thing = match and match.group(0)
        if match and match.group(2):
            right = re.fullmatch("0|-?[1-9][0-9]{0,17}", thing) and not (at and body[at - 1] in "0123456789")
            thing = int(thing) if right else None
        found.append((at + 1, thing))
        if thing is None:
            break
        at = match.end()
    return found


class Reader:
    """Reads lines plainly: what may come next is told by a function of what there was."""

    def __init__(self, text):
        rows = text.split("\n")
        self.lines = [(at, words_of(row), len(row) + 1) for at, row in enumerate(rows, 1) if words_of(row)]
        self.missing = (len(rows) + 1, 1)

    def line(self, number, forms):
        """The things of a line that has one of these forms: lists of tests, the last one perhaps for all further things."""
        at, things, end = self.lines[number]
        for place, (column, thing) in enumerate(things):
            test = forms[place] if place < len(forms) else None
            if test is None or not test([other for _, other in things[:place]], thing):
                raise Wrong(at, column)
        if len(things) < len(forms) and forms[len(things)] is not ANY:
            raise Wrong(at, end)
        return [thing for _, thing in things]


def ANY(_, thing):
    """Anything may stand there, or nothing."""
    return True


def one_of(*allowed):
    """A test for one of these."""
    return lambda _, thing: thing in allowed


def kinds_by(reader):
    """The kinds that the first lines tell, and the number of these lines."""
    told, number = {}, 0
    while number < len(reader.lines) and (number == 0 or reader.lines[number][1][0][1] == "kind"):
        at, things, end = reader.lines[number]
        words = reader.line(number, [
            lambda _, thing: thing == "kind" and len(told) < 4,
            lambda _, thing: isinstance(thing, str) and re.fullmatch("[a-z]{1,8}", thing) and thing not in told,
            one_of(":"), one_of(0, 1, 2)] + [
            lambda before, thing: (thing == "new" or (isinstance(thing, int) and 0 <= thing < before[3]))
            and thing not in before[4:]] * max(0, len(things) - 4))
        kind = (words[3], tuple(words[4:]))
        if kind not in ROWS.values() or kind in told.values():
            raise Wrong(at, things[4][0] if len(things) > 4 else end)
        told[words[1]] = kind
        number += 1
    if not told:
        raise Wrong(*reader.missing)
    return Kinds(told), number


def table_by(text):
    """The table that a text tells, read plainly; raises Wrong."""
    reader = Reader(text)
    kinds, number = kinds_by(reader)
    told = {}
    while number < len(reader.lines):
        at, things, _ = reader.lines[number]
        name = one_of(*kinds.told)
        words = [thing for _, thing in things]

        def colon(before, thing):
            entry = (before[0], before[1], before[3], before[4] == "less")
            if entry in told:
                raise Wrong(at, things[0][0])
            return thing == ":"

        def value(before, thing):
            return thing == "none" or (thing in kinds.told and ("new" in kinds.told[before[0]][1]
                                                               or "new" not in kinds.told[thing][1]))
        forms = [name, name, one_of("at"), one_of(*range(-3, 4)), one_of("less", "not"), colon, value]
        if len(words) == 5 and words[2] == "at":
            # The line ends too early, but the entry is told whole.
            reader.line(number, forms[:5])
            colon(words, None)
        if words[6:7] != ["none"]:
            forms.append(one_of(*range(-2, 3)))
        reader.line(number, forms)
        entry = (words[0], words[1], words[3], words[4] == "less")
        told[entry] = None if words[6] == "none" else (words[6], words[7])
        number += 1
    return Table(kinds, {**natural(kinds).told, **told})


def run_by(kinds, text):
    """What the text of a run tells, read plainly; raises Wrong."""
    reader = Reader(text)
    whole = lambda _, thing: isinstance(thing, int)
    if not reader.lines:
        raise Wrong(*reader.missing)
    many = len(reader.lines[0][1])
    letters = reader.line(0, [one_of("text")] + [
        lambda before, thing: isinstance(thing, int) and thing not in before] * max(0, many - 1))[1:]
    if len(reader.lines) == 1:
        raise Wrong(*reader.missing)
    hands = reader.line(1, [one_of("hands"), one_of(1, 2, 3, 4, 5, 6)])[1]
    steps = []
    for number in range(2, len(reader.lines)):
        words = [thing for _, thing in reader.lines[number][1]]
        forms = [one_of(*range(hands)), one_of("does", "sends", "hears")]
        if words[1:2] == ["does"]:
            forms += [one_of(*kinds.told), one_of("at"), whole]
            if words[2:3] and words[2] in kinds.told and "new" in kinds.told[words[2]][1]:
                forms += [one_of("with"), whole]
        words = reader.line(number, forms)
        if words[1] == "does":
            steps.append(("does", (words[2], words[4], words[6] if len(words) > 5 else None, words[0])))
        else:
            steps.append((words[1], words[0]))
    return tuple(letters), hands, steps


def wrong_at(call, *arguments):
    """The line and the column of a BadScript; what is returned, if there is none."""
    try:
        return call(*arguments)
    except BadScript as caught:
        return ("wrong", caught.line, caught.column)


def plainly(call, *arguments):
    """The same by the plain readers."""
    try:
        return call(*arguments)
    except Wrong as caught:
        return ("wrong", *caught.args)


def mangled(random, text):
    """A text with a few characters put in, left out or exchanged."""
    for _ in range(random.randrange(1, 4)):
        at = random.randrange(len(text) + 1)
        more = random.choice(["", " ", "  ", ":", "-", "#", "0", "1", "2", "-1", "9", "a", "kind", "new", "none", " put", "\n",
                              "X", ".", "\t", " not ", " at ", " with 7", "less", "text", "hands", "0 sends\n", "12", "5 "])
        text = text[:at] + more + text[at + random.choice((0, 0, 0, 1, 1, 2, 5)):]
    return text


def with_remarks(random, text):
    """The same text with more spaces, remarks and lines without anything else."""
    lines = []
    for line in text.split("\n"):
        line = re.sub(" ", lambda _: " " * random.randrange(1, 4), line)
        line = re.sub(":", lambda _: " " * random.randrange(3) + ":" + " " * random.randrange(1, 3), line)
        lines.append(" " * random.randrange(3) + line + random.choice(["", "   ", "# kind", " # 1:2 :Xy", "#"]))
        if random.random() < 0.4:
            lines.append(random.choice(["", "  ", "# put", "   # -- 007"]))
    return "\n".join(lines)


def tables():
    """Tables with drawn kinds, and some drawn entries."""
    random = Random(71)
    for many in (0, 1, 3, 8, 14):
        for _ in range(8):
            yield bent(random, kinds_of(" ".join(random.sample(sorted(ROWS), random.randrange(1, 5)))), many)


class Round(unittest.TestCase):
    def test_kinds(self):
        for table in tables():
            kinds = table.kinds
            text = write_kinds(kinds)
            self.assertEqual(read_kinds(text), kinds)
            self.assertEqual(text.count("\n"), len(kinds))

    def test_tables(self):
        random = Random(72)
        for table in tables():
            text = write_table(table)
            self.assertEqual(read_table(text), table)
            self.assertEqual(read_table(text[:-1]), table)
            self.assertEqual(read_table(with_remarks(random, text)), table)
            others = natural(table.kinds).told
            changed = [entry for entry in others if table.told[entry] != others[entry]]
            self.assertEqual(text.count("\n"), len(table.kinds) + len(changed))

    def test_runs(self):
        random = Random(73)
        for words in ("put", "put cut swap set", "aa bb drop join", "cut"):
            table = natural(kinds_of(words))
            for _ in range(10):
                hands = random.randrange(1, 7)
                text, steps, _ = draw_house(random, table, hands, 30)
                told = write_run(text, hands, steps)
                self.assertEqual(read_run(table.kinds, told), (text, hands, steps))
                self.assertEqual(read_run(table.kinds, with_remarks(random, told)), (text, hands, steps))

    def test_places_and_letters_may_be_any_numbers(self):
        steps = [("does", ("put", -3, 10 ** 18 - 1, 1)), ("does", ("cut", 10 ** 17, None, 0)), ("hears", 1), ("sends", 0),
                 ("does", ("put", 0, -(10 ** 18 - 1), 1)), ("does", ("put", 0, 4, 1)), ("does", ("put", 0, 4, 1))]
        self.assertEqual(read_run(BOTH, write_run((4, -5, 0), 2, steps)), ((4, -5, 0), 2, steps))


class Written(unittest.TestCase):
    def test_kinds(self):
        self.assertEqual(write_kinds(kinds_of("swap put cut pull")),
                         "kind cut: 1\nkind pull: 2 new 0\nkind put: 0 new\nkind swap: 2 1 0\n")

    def test_tables(self):
        table = natural(BOTH)
        self.assertEqual(write_table(table), CUT + PUT)
        table = table.with_entry(("put", "cut", -1, True), None).with_entry(("cut", "put", 3, False), ("cut", -2))
        self.assertEqual(write_table(table), CUT + PUT + "cut put at 3 not: cut -2\nput cut at -1 less: none\n")

    def test_each_value_of_an_entry(self):
        for entry in (("put", "cut", 0, True), ("cut", "cut", -3, False)):
            for value in values_for(BOTH, entry):
                table = natural(BOTH).with_entry(entry, value)
                self.assertEqual(read_table(write_table(table)), table)
                line = f"{entry[0]} {entry[1]} at {entry[2]} {'less' if entry[3] else 'not'}: "
                line += "none" if value is None else f"{value[0]} {value[1]}"
                self.assertEqual(read_table(CUT + PUT + line), table)
                if value != natural(BOTH).told[entry]:
                    self.assertEqual(write_table(table), CUT + PUT + line + "\n")

    def test_runs(self):
        steps = [("does", ("put", 1, 7, 0)), ("sends", 0), ("hears", 1), ("does", ("cut", -1, None, 1))]
        self.assertEqual(write_run((4, 5, -6), 2, steps),
                         "text 4 5 -6\nhands 2\n0 does put at 1 with 7\n0 sends\n1 hears\n1 does cut at -1\n")
        self.assertEqual(write_run((), 6, ()), "text\nhands 6\n")
        self.assertEqual(write_run((), 1, [("does", ("put", 0, 0, 0))]), "text\nhands 1\n0 does put at 0 with 0\n")

    def test_what_is_given_stays(self):
        steps = [("sends", 0)]
        write_run((), 1, steps)
        self.assertEqual(steps, [("sends", 0)])

    def test_no_kinds_and_no_tables(self):
        for kinds in (None, 0, {}, "put", natural(BOTH)):
            self.assertIsNone(raised(BadKinds, write_kinds, kinds).name)
        for table in (None, 0, {}, "put", BOTH):
            self.assertIsNone(raised(BadTable, write_table, table).entry)


class Reading(unittest.TestCase):
    def test_none_between(self):
        self.assertEqual(read_kinds("kind put:0new\nkind swap:2 1 0"), kinds_of("put swap"))
        self.assertEqual(read_kinds("kind a:2new 0"), Kinds({"a": ROWS["pull"]}))
        self.assertEqual(read_kinds("kind a :2 1new"), Kinds({"a": ROWS["move"]}))
        table = natural(kinds_of("put")).with_entry(("put", "put", -1, False), ("put", -2))
        self.assertEqual(read_table(PUT + "put put at-1not:put-2"), table)
        self.assertEqual(read_run(BOTH, "text4 5 -6\nhands2\n0does put at1with7\n1sends"),
                         ((4, 5, -6), 2, [("does", ("put", 1, 7, 0)), ("sends", 1)]))

    def test_blanks_remarks_and_empty_lines(self):
        text = "# a table\n\n   \n  kind   put :  0   new  # put\n#\n put put  at 0 not : put 0# stays\n   # done"
        self.assertEqual(read_table(text), natural(kinds_of("put")).with_entry(("put", "put", 0, False), ("put", 0)))
        self.assertEqual(read_run(BOTH, "\n# a run\n text #\n\n hands 1 # one\n"), ((), 1, []))

    def test_entries_without_lines_are_natural(self):
        self.assertEqual(read_table(PUT + CUT), natural(BOTH))
        self.assertEqual(read_table(CUT + PUT + "put put at 0 not: put 1"), natural(BOTH))

    def test_lines_of_kinds_in_any_order(self):
        lines = ["kind put: 0 new", "kind cut: 1", "kind swap: 2 1 0", "kind set: 1 new"]
        for order in permutations(lines):
            self.assertEqual(read_kinds("\n".join(order)), kinds_of("put cut swap set"))

    def test_entries_in_any_order(self):
        lines = ["put cut at 1 less: none", "cut put at 3 not: cut -2", "cut cut at 0 not: cut 1"]
        found = [read_table(CUT + PUT + "\n".join(order)) for order in permutations(lines)]
        self.assertTrue(all(table == found[0] for table in found))
        self.assertEqual(list(found[0].told), sorted(found[0].told))

    def test_names_that_mean_something_elsewhere(self):
        names = ["at", "less", "not", "new"]
        kinds = Kinds(dict(zip(names, (ROWS["put"], ROWS["cut"], ROWS["swap"], ROWS["set"]))))
        table = bent(Random(74), kinds, 30)
        self.assertEqual(read_table(write_table(table)), table)
        kinds = Kinds(dict(zip(["text", "hands", "does", "with"], (ROWS["put"], ROWS["cut"], ROWS["swap"], ROWS["set"]))))
        steps = [("does", ("text", 0, 5, 0)), ("does", ("hands", 0, None, 0)), ("does", ("with", 0, 6, 0)),
                 ("does", ("does", 0, None, 0))]
        self.assertEqual(read_run(kinds, write_run((), 1, steps)), ((), 1, steps))

    def test_what_is_returned(self):
        found = read_run(BOTH, RUN + "0 sends")
        self.assertEqual([type(part) for part in found], [tuple, int, list])
        self.assertIs(type(read_table(PUT)), Table)
        self.assertIs(type(read_kinds(PUT)), Kinds)


KIND_CASES = [
    # The first word, and the name.
    ("kinds put: 0 new", 1, 1), ("put: 0 new", 1, 1), ("  7", 1, 3), (":", 1, 1), ("kind", 1, 5), ("kind  # put", 1, 12),
    ("kind 1: 0 new", 1, 6), ("kind : 0 new", 1, 6), ("kind abcdefghi: 1", 1, 6), ("kind Put: 0 new", 1, 6),
    ("kind pUt: 0 new", 1, 7), ("Kind put: 0 new", 1, 1), ("kind\tput: 0 new", 1, 5),
    # The sign and the width.
    ("kind put 0 new", 1, 10), ("kind put", 1, 9), ("kind put:", 1, 10), ("kind put:  ", 1, 12), ("kind put:: 0", 1, 10),
    ("kind put: 3", 1, 11), ("kind put: -1", 1, 11), ("kind put: new", 1, 11), ("kind put: 00", 1, 11), ("kind a b: 1", 1, 8),
    ("kind put: 01", 1, 11), ("kind put: -0", 1, 11), ("kind put: -", 1, 11), ("kind put: - 1", 1, 11),
    # The row: what is no part of it, and what stands in it already.
    ("kind a: 2 1 2", 1, 13), ("kind a: 2 -1", 1, 11), ("kind a: 2 1 1", 1, 13), ("kind a: 2 new new", 1, 15),
    ("kind a: 2 1 0 new 1", 1, 19), ("kind a: 1 1", 1, 11), ("kind a: 0 0", 1, 11), ("kind a: 2 1 :", 1, 13),
    ("kind a: 2 1 old", 1, 13), ("kind a: 2 0 5", 1, 13), ("kind a: 2 1 0 X", 1, 15), ("kind a: 2 1 00", 1, 13),
    ("kind a: 2 1-0", 1, 12), ("kind a: 2 1 1000000000000000000", 1, 13), ("kind a: 2-1", 1, 10),
    # A row that is none, or a kind that another name has.
    ("kind a: 2 0 1", 1, 11), ("kind a: 2 0", 1, 11), ("kind a: 2   0 new #", 1, 13), ("kind a: 2 new 1", 1, 11),
    ("kind a: 1 0", 1, 11), ("kind a: 1 0 new", 1, 11), ("kind a: 1 new 0", 1, 11), ("kind a: 0", 1, 10),
    ("kind a: 0  # row", 1, 17), ("kind a: 2 1", 1, 11),
    (PUT + "kind a: 0 new", 2, 11), (CUT + "kind a: 1", 2, 10), (CUT + "kind a: 1 # the same", 2, 21),
    (PUT + "\n\nkind a:0   new", 4, 12),
    # A name that is told already.
    (PUT + "kind put: 1", 2, 6), (PUT + "  kind put", 2, 8), (PUT + CUT + "kind cut: 1", 3, 6),
    # A fifth kind.
    (PUT + CUT + "kind swap: 2 1 0\nkind set: 1 new\n kind drop: 2", 5, 2),
    (PUT + CUT + "kind swap: 2 1 0\nkind set: 1 new\nkind", 5, 1),
    # Lines that are missing.
    ("", 2, 1), ("\n", 3, 1), ("\n\n# kind put: 0 new\n", 5, 1), ("   ", 2, 1),
    # Other characters and signs.
    (PUT + ".", 2, 1), (PUT + "kind a; 1", 2, 7), ("kind a: 1.", 1, 10), ("kind a: 1 -", 1, 11), ("kind a: 1 +1", 1, 11),
    ("kind a:\r\n", 1, 8), ("kind a: 1\r\n", 1, 10), ("kind a: 1\u00a0", 1, 10), ("kind \u00e9: 1", 1, 6), ("kind a\u00e9: 1", 1, 7), ("kind a: \u00b2", 1, 9),
    ("kind a: \u0661", 1, 9), ("kind a_: 1", 1, 7), ("kind a: 1\t", 1, 10), ("kind a:\f1", 1, 8), ("kind a: 1\u2028kind", 1, 10),
]

# Behind the lines of put and cut.
ENTRY_CASES = [
    ("set put at 0 not: none", 1), ("put set at 0 not: none", 5), ("put", 4), ("put ", 5), ("put put", 8), ("0", 1), (":", 1),
    ("put 0", 5), ("put put 0", 9), ("put put put", 9), ("put put at", 11), ("put put at less", 12), ("put put at 4 less: none", 12),
    ("put put at -4 less: none", 12), ("put put at-4", 11), ("put put at 03", 12), ("put put at -0", 12), ("put put at 0", 13),
    ("put put at 0 # not", 19), ("put put at 0 none", 14), ("put put at 0 : none", 14), ("put put at 0 not", 17),
    ("put put at 0 not none", 18), ("put put at 0 not 0", 18), ("put put at 0 not:", 18), ("put put at 0 not:  # x", 23),
    ("put put at 0 not: 0", 19), ("put put at 0 not: set 0", 19), ("put put at 0 not: put", 22), ("put put at 0 not: put 3", 23),
    ("put put at 0 not: put -3", 23), ("put put at 0 not: put none", 23), ("put put at 0 not: put 0 0", 25),
    ("put put at 0 not: none 0", 24), ("put put at 0 not: none none", 24), ("put put at 0 not: none:", 23),
    # A kind with new for an entry whose first kind has none.
    ("cut put at 0 not: put 0", 19), ("cut put at 0 not:put", 18), ("cut put at 0 not: cut 2 X", 25),
    # A line of a kind behind lines of entries, and an entry that is told already.
    ("put put at 0 not: none\nkind set: 1 new", 1), ("put put at 0 not: none\n put put at 0 not: none", 2),
    ("put put at 0 not: none\n\n  put put at 0 not: put 9", 3), ("put put at 0 not: none\nput put at 0 not", 1),
    ("put put at 0 not: none\nput put at 0 not X", 1), ("put put at 0 not: none\nput put at 0 nut", 14),
    ("put put at 0 not: none\nput put at 0 less: none\nput put at 1 not: none\nput put at 0 less: none", 1),
    ("PUT", 1), ("put\tput", 4), ("put put at 0 not: put 1-1", 24), ("put put at 0 not; put 0", 17),
]

STEP_CASES = [
    ("2 sends", 1), ("-1 sends", 1), ("sends 0", 1), ("0", 2), ("0 # sends", 10), ("0 send", 3), ("0 1", 3), ("0:", 2), ("0 does", 7),
    ("0 does 1", 8), ("0 does set at 1", 8), ("0 does put", 11), ("0 does put 1", 12), ("0 does put at", 14),
    ("0 does put at with", 15), ("0 does put at 1", 16), ("0 does put at 1  # with 7", 26), ("0 does put at 1 7", 17),
    ("0 does put at 1 with", 21), ("0 does put at 1 with :", 22), ("0 does put at 1 with 7 8", 24), ("0 does put at 1 with 07", 22),
    ("0 does cut at 1 with 7", 17), ("0 does cut at 1 7", 17), ("0 does cut at 1 none", 17), ("0 sends 0", 9), ("0 hears hears", 9),
    ("0 sends:", 8), ("00 sends", 1), ("-0 sends", 1), ("0 does put at 1000000000000000000 with 7", 15),
    ("0 does put at -1000000000000000000 with 7", 15), ("0 does put at 1-1 with 7", 16), ("0 does put at 1 with 7-", 23),
    ("text", 1), ("hands 2", 1), ("kind put: 0 new", 1), ("0 does Put at 1", 8), ("0 sends\n2 hears", 1),
    ("0 sends\n0 sends\n  1 heard", 5),
]

RUN_CASES = [
    ("", 2, 1), ("\n#\n", 4, 1), ("text", 2, 1), ("text\n", 3, 1), ("text 1 2\n\n# hands", 4, 1), ("hands 2", 1, 1), ("texts 1", 1, 1),
    ("1 2", 1, 1), ("text: 1", 1, 5), ("text 1 a", 1, 8), ("text 4 5 4", 1, 10), ("text -4 4 -4", 1, 11), ("text 4 -0", 1, 8),
    ("text 4 00", 1, 8), ("text 4 1234567890123456789", 1, 8), ("text 4-5", 1, 7), ("text 4 - 5", 1, 8), ("text 1\ntext 2", 2, 1),
    ("text 1\nhands", 2, 6), ("text 1\nhands # 2", 2, 10), ("text 1\nhands 0", 2, 7), ("text 1\nhands 7", 2, 7),
    ("text 1\nhands -1", 2, 7), ("text 1\nhands two", 2, 7), ("text 1\nhands 2 3", 2, 9), ("text 1\nhands: 2", 2, 6),
    ("text 1\n0 sends", 2, 1), ("text 1\nhands 2:", 2, 8),
]


class Wrongs(unittest.TestCase):
    def check(self, call, arguments, line, column):
        """Hold the error against the line and the column."""
        with self.subTest(text=arguments[-1]):
            found = raised(BadScript, call, *arguments)
            self.assertEqual((found.line, found.column), (line, column))

    def test_kinds(self):
        for text, line, column in KIND_CASES:
            self.check(read_kinds, [text], line, column)
            self.check(read_table, [text], line, column)

    def test_kinds_at_later_lines_and_behind_blanks(self):
        for text, line, column in KIND_CASES:
            self.check(read_kinds, ["# x\n  \n" + text], line + 2, column)
            *ahead, last = text.split("\n")
            if line == len(ahead) + 1:
                self.check(read_table, ["\n".join([*ahead, "  " + last])], line, column + 2)

    def test_only_lines_of_kinds_tell_kinds(self):
        self.check(read_kinds, [PUT + "\n  put put at 0 not: none"], 3, 3)
        self.check(read_kinds, [PUT + "X"], 2, 1)

    def test_entries(self):
        for text, column in ENTRY_CASES:
            for ahead in (PUT + CUT, "\n" + CUT + "# x\n" + PUT):
                self.check(read_table, [ahead + text], (ahead + text).count("\n") + 1, column)
            self.check(read_table, [PUT + CUT + "cut cut at 3 less: none # x\n" + text], text.count("\n") + 4, column)
            self.check(read_table, [PUT + CUT + text + "\n???\nkind"], text.count("\n") + 3, column)

    def test_entries_behind_blanks(self):
        for text, column in ENTRY_CASES:
            *ahead, last = text.split("\n")
            moved = "\n".join([*ahead, "   " + last])
            self.check(read_table, [PUT + CUT + moved], moved.count("\n") + 3, column + 3)

    def test_runs(self):
        for text, line, column in RUN_CASES:
            self.check(read_run, [BOTH, text], line, column)

    def test_runs_at_later_lines_and_behind_blanks(self):
        for text, line, column in RUN_CASES:
            self.check(read_run, [BOTH, "\n# x\n" + text], line + 2, column)
            *ahead, last = text.split("\n")
            if line == len(ahead) + 1:
                self.check(read_run, [BOTH, "\n".join([*ahead, " " + last])], line, column + 1)

    def test_steps(self):
        for text, column in STEP_CASES:
            self.check(read_run, [BOTH, RUN + text], text.count("\n") + 3, column)
            self.check(read_run, [BOTH, "# x\n" + RUN + "1 sends\n\n" + text + "\n???"], text.count("\n") + 6, column)
            *ahead, last = text.split("\n")
            self.check(read_run, [BOTH, RUN + "\n".join([*ahead, "  " + last])], text.count("\n") + 3, column + 2)

    def test_numbers(self):
        self.assertEqual(read_run(BOTH, "text 999999999999999999 -999999999999999999 0 10\nhands 1")[0],
                         (999999999999999999, -999999999999999999, 0, 10))
        for number in ("1000000000000000000", "-1000000000000000000", "01", "00", "-0", "-01", "0000000000000000001"):
            self.check(read_run, [BOTH, f"text 1 {number}\nhands 1"], 1, 8)

    def test_no_strings(self):
        for text in (None, 0, [], ["kind put: 0 new"], b"kind put: 0 new", (), {}):
            for call, arguments in ((read_kinds, [text]), (read_table, [text]), (read_run, [BOTH, text])):
                self.check(call, arguments, 0, 0)

    def test_no_kinds_come_first(self):
        for kinds in (None, 0, {}, "put", natural(BOTH)):
            for text in (None, "", RUN):
                self.assertIsNone(raised(BadKinds, read_run, kinds, text).name)


class Plainly(unittest.TestCase):
    """Mangled texts, read once more by plain readers."""

    def test_tables(self):
        random = Random(75)
        found = []
        for _ in range(60):
            for table in list(tables())[8:]:
                text = mangled(random, write_table(table))
                wanted = plainly(table_by, text)
                found.append(wrong_at(read_table, text))
                self.assertEqual(found[-1], wanted, text)
        self.assertGreater(len([each for each in found if isinstance(each, Table)]), 20)

    def test_kinds(self):
        random = Random(76)
        for _ in range(3000):
            kinds = kinds_of(" ".join(random.sample(sorted(ROWS), random.randrange(1, 5))))
            text = mangled(random, write_kinds(kinds))
            wanted = plainly(table_by, text)
            found = wrong_at(read_table, text)
            self.assertEqual(found, wanted, text)
            if isinstance(found, Table) and found == natural(found.kinds):
                self.assertEqual(wrong_at(read_kinds, text), found.kinds)

    def test_runs(self):
        random = Random(77)
        table = natural(kinds_of("put cut swap set"))
        found = []
        for _ in range(3000):
            text, steps, _ = draw_house(random, table, random.randrange(1, 4), random.randrange(8))
            told = mangled(random, write_run(text, 3, steps))
            found.append(wrong_at(read_run, table.kinds, told))
            self.assertEqual(found[-1], plainly(run_by, table.kinds, told), told)
        self.assertGreater(len([each for each in found if each[0] != "wrong"]), 100)


if __name__ == "__main__":
    unittest.main()
