"""Houses: point [21]."""

import unittest

from changetables.errors import BadNumber, BadTable, BadText, ChangeError
from changetables.houses import (BadHistory, BadScript, BadStep, End, Fails, NothingDone, Serves, closing, judge_house,
                                 run)
from changetables.kinds import Kinds
from changetables.tables import Table, natural
from changetables.twohands import judge_two
from plain import Lost, PlainHouse, closed, draw_house, seeded
from reference import ROWS, SOMETIMES, bent, good_tables, kinds_of, raised

BOTH = natural(kinds_of("put cut"))
PUTS = natural(kinds_of("put"))
# The form of a put of a greater hand at the same place is not moved: both ways make different texts.
BENT = PUTS.with_entry(("put", "put", 0, False), ("put", 0))
# A put behind another one goes to a place that no short text has.
FAR = PUTS.with_entry(("put", "put", 0, False), ("put", 2))
NO_TABLES = [None, 0, {}, "table", BOTH.kinds, BOTH.told]
NO_TEXTS = [None, [1, 2], "ab", (1, 1), (1, "2"), (1, True), 5]
PUT, CUT = ("does", ("put", 1, 7, 0)), ("does", ("cut", 1, None, 1))
NO_STEPS = [None, 0, "sends", (), ("sends",), ["sends", 0], ("sends", 0, 0), ("send", 0), (None, 0), (["sends"], 0),
            ("sends", None), ("sends", "0"), ("sends", True), ("sends", -1), ("sends", 2), ("hears", 2), ("hears", -1),
            ("hears", False), ("does", None), ("does", 0), ("does", ()), ("does", ("put", 0, 9)),
            ("does", ("pot", 0, 9, 0)), ("does", ("put", 0, None, 0)), ("does", ("put", 0, 9, 2)),
            ("does", ("put", 0, 9, -1)), ("does", ("put", 0, 9, True)), ("does", ("cut", 0, 9, 0)),
            ("does", ["put", 0, 9, 0]), ("does", ("put", "0", 9, 0)), ("up", 1), ("down", 1)]


def told(end):
    """What an End has."""
    return (end.text, end.texts, end.waiting, end.unheard)


def tables_for(random):
    """Natural tables, tables with some other entries, and tables by which two hands meet well."""
    tables = [natural(kinds_of(words)) for words in ("put", "put cut", "put cut swap set", "drop join", "aa bb cc cut")]
    tables += [bent(random, table.kinds, many) for table in tables for many in (1, 4, 12)]
    return tables + [table for words in SOMETIMES for table in good_tables(random, kinds_of(words), 1)]


class Run(unittest.TestCase):
    def check(self, table, text, hands, steps, play):
        """Hold run and closing against a plain house behind these steps."""
        found = run(table, text, hands, steps)
        if play is None:
            self.assertIsNone(found)
            self.assertIsNone(closing(table, text, hands, steps))
            return
        self.assertIs(type(found), End)
        self.assertEqual(told(found), play.end())
        try:
            wanted = closed(play)
        except Lost:
            wanted = None
        late = closing(table, text, hands, tuple(steps))
        self.assertEqual(late, wanted)
        if late is not None:
            self.assertIs(type(late), list)
            end = run(table, text, hands, steps + late)
            self.assertEqual(told(end), play.end())
            self.assertEqual((set(end.waiting), set(end.unheard)), ({0}, {0}))
            self.assertEqual(closing(table, text, hands, steps + late), [])

    def test_against_plain_houses(self):
        random = seeded(41)
        for _ in range(12):
            for table in tables_for(random):
                hands = random.randrange(1, 7)
                self.check(table, *self.drawn(random, table, hands, random.randrange(40)))

    def drawn(self, random, table, hands, many):
        """The arguments of check for a house, drawn."""
        text, steps, play = draw_house(random, table, hands, many)
        return text, hands, steps, play

    def test_many_steps_of_few_hands(self):
        random = seeded(42)
        for table in good_tables(random, kinds_of("put cut"), 20) + good_tables(random, kinds_of("cut swap"), 20):
            self.check(table, *self.drawn(random, table, 2, 150))
            self.check(table, *self.drawn(random, table, 3, 150))

    def test_all_texts_are_the_same_where_all_two_changes_meet_well(self):
        random = seeded(43)
        for words in SOMETIMES + ["put cut swap", "cut set join", "cut put set swap"]:
            for table in good_tables(random, kinds_of(words), 4):
                for _ in range(4):
                    hands = random.randrange(1, 7)
                    text, steps, _ = draw_house(random, table, hands, 40)
                    end = run(table, text, hands, steps + closing(table, text, hands, steps))
                    self.assertEqual({end.text, *end.texts}, {end.text})

    def test_each_word(self):
        steps = [("does", ("put", 1, 7, 0)), ("does", ("cut", 0, None, 1)), ("sends", 1), ("sends", 0), ("hears", 0),
                 ("hears", 1), ("hears", 1), ("hears", 0)]
        ends = [((5, 6), ((5, 6), (5, 6)), (0, 0), (0, 0)),
                ((5, 6), ((5, 7, 6), (5, 6)), (1, 0), (0, 0)),
                ((5, 6), ((5, 7, 6), (6,)), (1, 1), (0, 0)),
                ((6,), ((5, 7, 6), (6,)), (1, 1), (1, 1)),
                ((7, 6), ((5, 7, 6), (6,)), (1, 1), (2, 2)),
                ((7, 6), ((7, 6), (6,)), (1, 1), (1, 2)),
                ((7, 6), ((7, 6), (6,)), (1, 0), (1, 1)),
                ((7, 6), ((7, 6), (7, 6)), (1, 0), (1, 0)),
                ((7, 6), ((7, 6), (7, 6)), (0, 0), (0, 0))]
        for many, end in enumerate(ends):
            self.assertEqual(told(run(BOTH, (5, 6), 2, steps[:many])), end)

    def test_a_change_that_comes_to_nothing_while_it_waits(self):
        # Both cut the same letter: what hand 1 has not sent waits no more when it hears of the other one.
        steps = [("does", ("cut", 0, None, 0)), ("does", ("cut", 0, None, 1)), ("sends", 0), ("hears", 1)]
        self.assertEqual(told(run(BOTH, (5, 6), 2, steps)), ((6,), ((6,), (6,)), (1, 0), (1, 0)))
        self.assertEqual(closing(BOTH, (5, 6), 2, steps), [("hears", 0)])
        self.assertEqual(raised(BadStep, run, BOTH, (5, 6), 2, steps + [("sends", 1)]).place, 4)

    def test_a_change_that_comes_to_nothing_at_the_house(self):
        # It is not put into the row, and waits until its hand hears of the other one.
        steps = [("does", ("cut", 0, None, 0)), ("does", ("cut", 0, None, 1)), ("sends", 0), ("sends", 1)]
        self.assertEqual(told(run(BOTH, (5, 6), 2, steps)), ((6,), ((6,), (6,)), (1, 1), (1, 1)))
        self.assertEqual(told(run(BOTH, (5, 6), 2, steps + [("hears", 1)])), ((6,), ((6,), (6,)), (1, 0), (1, 0)))
        self.assertEqual(closing(BOTH, (5, 6), 2, steps), [("hears", 0), ("hears", 1)])

    def test_a_change_that_comes_to_nothing_while_it_is_unheard(self):
        # The house keeps nothing of hand 0's cut for hand 1, which has cut the same letter; further ones pass it.
        steps = [("does", ("cut", 0, None, 0)), ("sends", 0), ("does", ("cut", 0, None, 1)), ("does", ("cut", 0, None, 1)),
                 ("does", ("put", 0, 9, 1)), ("sends", 1), ("sends", 1), ("sends", 1)]
        end = run(BOTH, (5, 6, 4), 2, steps)
        self.assertEqual(told(end), ((9, 4), ((6, 4), (9, 4)), (1, 3), (3, 3)))
        late = closing(BOTH, (5, 6, 4), 2, steps)
        self.assertEqual(late, [("hears", 0)] * 3 + [("hears", 1)] * 3)
        self.assertEqual(told(run(BOTH, (5, 6, 4), 2, steps + late)), ((9, 4), ((9, 4), (9, 4)), (0, 0), (0, 0)))

    def test_the_forms_behind_what_was_taken_before(self):
        # The second put of hand 1 comes behind hand 0's cut in the form that this has behind the first put.
        steps = [("does", ("cut", 1, None, 0)), ("sends", 0), ("does", ("put", 0, 8, 1)), ("does", ("put", 3, 9, 1)),
                 ("sends", 1), ("sends", 1)]
        self.assertEqual(run(BOTH, (5, 6, 4), 2, steps).text, (8, 5, 9, 4))

    def test_a_house_with_one_hand(self):
        steps = [("does", ("put", 0, 7, 0)), ("does", ("cut", 1, None, 0)), ("sends", 0)]
        self.assertEqual(told(run(BOTH, (5,), 1, steps)), ((7, 5), ((7,),), (2,), (1,)))
        late = closing(BOTH, (5,), 1, steps)
        self.assertEqual(late, [("sends", 0), ("hears", 0), ("hears", 0)])
        self.assertEqual(told(run(BOTH, (5,), 1, steps + late)), ((7,), ((7,),), (0,), (0,)))

    def test_no_steps(self):
        for hands in range(1, 7):
            for steps in ([], ()):
                self.assertEqual(told(run(BOTH, (4, 5), hands, steps)),
                                 ((4, 5), ((4, 5),) * hands, (0,) * hands, (0,) * hands))
                self.assertEqual(closing(BOTH, (4, 5), hands, steps), [])

    def test_closing_goes_by_the_first_hand(self):
        steps = [("does", ("put", 0, 7, 2)), ("does", ("put", 0, 8, 1)), ("does", ("put", 0, 9, 2))]
        self.assertEqual(closing(BOTH, (), 3, steps),
                         [("sends", 1), ("sends", 2), ("sends", 2)] + [("hears", hand) for hand in (0, 0, 0, 1, 1, 1, 2, 2, 2)])

    def test_forms_that_cannot_be_done(self):
        steps = [("does", ("put", 0, 7, 0)), ("does", ("put", 0, 8, 1)), ("sends", 0)]
        self.assertEqual(told(run(FAR, (), 2, steps)), ((7,), ((7,), (8,)), (1, 1), (1, 1)))
        self.assertIsNone(closing(FAR, (), 2, steps))
        # By the house.
        self.assertIsNone(run(FAR, (), 2, steps + [("sends", 1)]))
        self.assertIsNone(closing(FAR, (), 2, steps + [("sends", 1)]))
        # By a hand.
        steps = [("does", ("put", 0, 7, 0)), ("does", ("put", 0, 8, 1)), ("sends", 1), ("hears", 0)]
        bad = PUTS.with_entry(("put", "put", 0, False), ("put", -1))
        self.assertIsNone(run(bad, (), 2, steps))
        self.assertEqual(told(run(bad, (), 2, steps[:3])), ((8,), ((7,), (8,)), (1, 1), (1, 1)))
        # Steps behind it are not made, and it is not asked whether there is anything to send or to hear.
        self.assertIsNone(run(bad, (), 2, steps + [("sends", 0), ("hears", 1), ("hears", 1)]))
        self.assertIsNone(run(bad, (), 2, steps + [("sends", 0)] * 9 + [("does", ("put", 50, 9, 0))]))

    def test_what_is_given_stays_and_what_is_returned_is_new(self):
        steps = [PUT, CUT]
        closing(BOTH, (1, 2, 3), 2, steps).append(1)
        run(BOTH, (1, 2, 3), 2, steps)
        self.assertEqual(steps, [PUT, CUT])
        self.assertEqual(len(closing(BOTH, (1, 2, 3), 2, steps)), 6)
        self.assertEqual([type(part) for part in told(run(BOTH, (1, 2, 3), 2, steps))], [tuple] * 4)


class Errors(unittest.TestCase):
    def test_the_errors(self):
        self.assertEqual([error.__bases__ for error in (BadStep, BadHistory, BadScript, NothingDone)], [(ChangeError,)] * 4)
        self.assertEqual((BadStep(3).place, BadHistory(2).number), (3, 2))
        self.assertEqual((BadScript(4, 5).line, BadScript(4, 5).column), (4, 5))
        self.assertEqual(str(NothingDone("nothing")), "nothing")

    def test_the_order(self):
        for asked in (run, closing):
            for table in NO_TABLES:
                self.assertIsNone(raised(BadTable, asked, table, None, None, None).entry)
            for text in NO_TEXTS:
                raised(BadText, asked, BOTH, text, None, None)
            for hands in (0, 7, -1, 100, None, True, "2", (2,), [2]):
                raised(BadNumber, asked, BOTH, (1,), hands, None)
            for steps in (None, 0, "", {}, iter([])):
                self.assertIsNone(raised(BadStep, asked, BOTH, (1,), 2, steps).place)

    def test_what_is_no_step(self):
        for asked in (run, closing):
            for step in NO_STEPS:
                for steps in ([step], [PUT, step], (PUT, CUT, step, ("sends", 0))):
                    with self.subTest(step=step):
                        self.assertEqual(raised(BadStep, asked, BOTH, (1, 2, 3), 2, steps).place, min(2, len(steps) - 1))

    def test_what_cannot_be_made(self):
        for asked in (run, closing):
            for steps, number in (
                    # A change that cannot be done to the text of its hand.
                    ([("does", ("cut", 3, None, 0))], 0), ([("does", ("cut", -1, None, 0))], 0),
                    ([("does", ("put", 4, 9, 0))], 0), ([PUT, ("does", ("put", 4, 9, 1))], 1),
                    ([PUT, CUT, ("does", ("cut", 2, None, 1))], 2),
                    # A letter that the first text or an earlier change has.
                    ([("does", ("put", 0, 2, 0))], 0), ([PUT, ("does", ("put", 0, 7, 1))], 1),
                    ([CUT, ("does", ("put", 0, 2, 1))], 1),
                    ([PUT, ("does", ("cut", 1, None, 0)), ("does", ("put", 0, 7, 0))], 2),
                    # Nothing to send, or to hear.
                    ([("sends", 0)], 0), ([PUT, ("sends", 1)], 1), ([PUT, ("sends", 0), ("sends", 0)], 2),
                    ([("hears", 1)], 0), ([PUT, ("hears", 0)], 1),
                    ([PUT, ("sends", 0), ("hears", 1), ("hears", 1)], 3),
                    ([PUT, ("sends", 0), ("hears", 0), ("sends", 0)], 3),
                    # The first of two.
                    ([PUT, ("sends", 1), 7], 1), ([PUT, 7, ("sends", 1)], 1)):
                with self.subTest(steps=steps):
                    self.assertEqual(raised(BadStep, asked, BOTH, (1, 2, 3), 2, steps).place, number)

    def test_what_is_no_step_behind_a_form_that_cannot_be_done(self):
        steps = [("does", ("put", 0, 7, 0)), ("does", ("put", 0, 8, 1)), ("sends", 0), ("sends", 1)]
        for step in (7, ("sends", 2), ("does", ("put", 0, 9, 5)), ("does", ("put", 0, 7, 0))):
            for asked in (run, closing):
                self.assertEqual(raised(BadStep, asked, FAR, (), 2, steps + [("hears", 0), step]).place, 5)
            self.assertFalse(Fails((), steps + [step]).shows(FAR, 2))

    def test_letters_that_a_later_text_has_not(self):
        # Letters of changes that were taken for other kinds stay those of earlier changes.
        steps = [("does", ("put", 0, 9, 0)), ("does", ("cut", 0, None, 0)), ("does", ("put", 0, 9, 1))]
        self.assertEqual(raised(BadStep, run, BOTH, (1, 2, 3), 2, steps).place, 2)

    def test_six_hands_are_the_most(self):
        self.assertEqual(len(run(BOTH, (), 6, [("does", ("put", 0, 1, 5))]).texts), 6)
        self.assertEqual(raised(BadStep, run, BOTH, (), 6, [("does", ("put", 0, 1, 6))]).place, 0)


def drawn_failing(random, table, hands):
    """Whether some drawn steps, with their closing steps, fail."""
    _, _, play = draw_house(random, table, hands, 30)
    if play is None:
        return True
    try:
        closed(play)
    except Lost:
        return True
    return len(set(play.all_texts())) > 1


class Judge(unittest.TestCase):
    def check(self, table):
        """Hold the answers for all numbers of hands against that for two changes, and play what fails."""
        good = bool(judge_two(table))
        for hands in range(2, 7):
            found = judge_house(table, hands)
            self.assertIs(type(found), Serves if good else Fails)
            self.assertIs(bool(found), good)
            self.assertIs(found.shows(table, hands), True)
            if good:
                self.assertEqual(found.hands, hands)
            else:
                self.assertTrue(self.fails(table, found, hands))
        return good

    def fails(self, table, found, hands):
        """Whether steps, played plainly, are their own closing and fail."""
        play = PlainHouse(table, found.text, hands)
        for at, step in enumerate(found.steps):
            self.assertTrue(play.can(step))
            try:
                play.make(step)
            except Lost:
                return at == len(found.steps) - 1
        return play.next_step() is None and len(set(play.all_texts())) > 1

    def test_natural_tables(self):
        for words in ("put", "cut", "put cut"):
            self.assertTrue(self.check(natural(kinds_of(words))))
        for words in [name for name in ROWS if name not in ("put", "cut")] + ["put set", "put cut swap drop"]:
            self.assertFalse(self.check(natural(kinds_of(words))))

    def test_tables_with_other_entries(self):
        random = seeded(44)
        found = [self.check(bent(random, kinds_of(words), many)) for words in ("put", "cut", "put cut", "cut set drop")
                 for many in (1, 2, 5) for _ in range(4)]
        self.assertIn(False, found)

    def test_tables_by_which_two_meet_well_but_three_do_not_agree(self):
        random = seeded(45)
        for words in ("swap", "put cut", "cut join", "cut swap", "set swap", "put cut swap"):
            for table in good_tables(random, kinds_of(words), 3):
                self.assertTrue(self.check(table))

    def test_drawn_steps_fail_only_where_the_answer_is_no(self):
        random = seeded(46)
        for words in ("put", "cut", "put cut", "swap", "set join"):
            for table in good_tables(random, kinds_of(words), 2) + [bent(random, kinds_of(words), 1) for _ in range(5)]:
                failing = [drawn_failing(random, table, random.randrange(2, 5)) for _ in range(8)]
                if any(failing):
                    self.assertFalse(judge_house(table, 3))

    def test_errors(self):
        for table in NO_TABLES:
            self.assertIsNone(raised(BadTable, judge_house, table, 0).entry)
        for hands in (0, 1, 7, -2, None, True, "2", (2,), [3]):
            raised(BadNumber, judge_house, BOTH, hands)
            raised(BadNumber, judge_house, BENT, hands)


class Ends(unittest.TestCase):
    def test_equality(self):
        end = End((1,), ((1,), (2,)), (0, 1), (1, 0))
        self.assertTrue(end == End((1,), ((1,), (2,)), (0, 1), (1, 0)))
        for other in (End((2,), ((1,), (2,)), (0, 1), (1, 0)), End((1,), ((1,), (1,)), (0, 1), (1, 0)),
                      End((1,), ((1,), (2,)), (1, 1), (1, 0)), End((1,), ((1,), (2,)), (0, 1), (0, 0)), None, 0,
                      ((1,), ((1,), (2,)), (0, 1), (1, 0))):
            self.assertFalse(end == other)
            self.assertTrue(end != other)


class ServesEvidence(unittest.TestCase):
    def test_equal_and_bool(self):
        self.assertTrue(Serves(3) == Serves(3))
        for other in (Serves(2), None, 3, Fails((), [])):
            self.assertFalse(Serves(3) == other)
        self.assertIs(bool(Serves(2)), True)

    def test_shows(self):
        for hands in range(2, 7):
            self.assertIs(Serves(hands).shows(BOTH, hands), True)
            self.assertIs(Serves(hands).shows(BENT, hands), False)
            self.assertIs(Serves(hands + 1).shows(BOTH, hands), False)
        found = Serves(2)
        found.hands = 3
        self.assertIs(found.shows(BOTH, 2), False)
        self.assertIs(found.shows(BOTH, 3), True)
        for hands in (0, -1, 1, 7, 1000):
            self.assertIs(Serves(hands).shows(BOTH, 2), False)

    def test_errors(self):
        for table in NO_TABLES:
            self.assertIsNone(raised(BadTable, Serves(2).shows, table, 0).entry)
        for hands in (0, 1, 7, None, True, "2"):
            raised(BadNumber, Serves(2).shows, BOTH, hands)
            raised(BadNumber, Serves(hands).shows, BENT, hands)


class FailsEvidence(unittest.TestCase):
    DOES = [("does", ("put", 0, 7, 0)), ("does", ("put", 0, 8, 1))]
    LATE = [("sends", 0), ("sends", 1), ("hears", 0), ("hears", 0), ("hears", 1), ("hears", 1)]

    def test_equal_and_bool(self):
        found = Fails((1,), self.DOES)
        self.assertTrue(found == Fails((1,), tuple(self.DOES)))
        for other in (Fails((2,), self.DOES), Fails((1,), self.DOES[:1]), None, Serves(2), (1,)):
            self.assertFalse(found == other)
        self.assertIs(bool(found), False)

    def test_the_list_is_a_new_one(self):
        steps = list(self.DOES)
        found = Fails((), steps)
        steps.append(1)
        self.assertEqual(found.steps, self.DOES)
        self.assertIs(type(Fails((), tuple(self.DOES)).steps), list)

    def test_shows_steps_that_fail(self):
        self.assertIs(Fails((), self.DOES + self.LATE).shows(BENT, 2), True)
        # Longer texts, other hands and other orders are as good.
        self.assertIs(Fails((4, 5), self.DOES + [self.LATE[at] for at in (1, 0, 5 - 1, 2, 3, 5)]).shows(BENT, 2), True)
        more = self.LATE + [("hears", 2), ("hears", 2)]
        self.assertIs(Fails((), self.DOES + more).shows(BENT, 3), True)
        # A form that cannot be done is enough, whatever comes behind it.
        self.assertIs(Fails((), self.DOES + self.LATE[:2]).shows(FAR, 2), True)
        self.assertIs(Fails((), self.DOES + self.LATE).shows(FAR, 2), True)

    def test_shows_steps_that_are_not_their_own_closing(self):
        for many in range(len(self.LATE)):
            self.assertIs(Fails((), self.DOES + self.LATE[:many]).shows(BENT, 2), False)
        self.assertIs(Fails((), self.DOES + self.LATE).shows(BENT, 3), False)
        self.assertIs(Fails((), self.DOES + self.LATE[:1]).shows(FAR, 2), False)
        self.assertIs(Fails((), self.DOES).shows(FAR, 2), False)

    def test_shows_steps_that_do_not_fail(self):
        self.assertIs(Fails((), self.DOES + self.LATE).shows(PUTS, 2), False)
        self.assertIs(Fails((), []).shows(BENT, 2), False)
        self.assertIs(Fails((1,), [("does", ("put", 0, 7, 0)), ("sends", 0), ("hears", 0), ("hears", 1)]).shows(BENT, 2), False)

    def test_shows_of_other_kinds(self):
        self.assertIs(Fails((), self.DOES + self.LATE).shows(natural(kinds_of("cut")), 2), False)

    def test_shows_what_the_attributes_are_now(self):
        found = judge_house(BENT, 2)
        steps = list(found.steps)
        for changed in (steps[:-1], steps[1:], [*steps, ("hears", 0)], [*steps, ("sends", 1)], steps[::-1], [],
                        [*steps, 7], [("does", None), *steps[1:]], tuple(steps), [list(step) for step in steps]):
            found.steps = changed
            self.assertIs(found.shows(BENT, 2), False)
        found.steps = steps
        self.assertIs(found.shows(BENT, 2), True)
        for text in ((100,), (101, 5), (1, 1), (True,), [], None, (1, "2")):
            found.text = text
            self.assertIs(found.shows(BENT, 2), False)
        found.text = (1, 2, 3)
        self.assertIs(found.shows(BENT, 2), True)
        found.text = ()
        found.steps.append(("does", ("put", 0, 9, 0)))
        self.assertIs(found.shows(BENT, 2), False)

    def test_steps_that_are_none(self):
        for step in NO_STEPS:
            for at in (0, 2, 8):
                steps = self.DOES + self.LATE
                steps.insert(at, step)
                self.assertIs(Fails((), steps).shows(BENT, 2), False)

    def test_errors(self):
        for table in NO_TABLES:
            self.assertIsNone(raised(BadTable, Fails(None, []).shows, table, 0).entry)
        for hands in (0, 1, 7, None, True, "2"):
            raised(BadNumber, Fails(None, []).shows, BENT, hands)


class Further(unittest.TestCase):
    def test_other_names_of_kinds_and_far_letters(self):
        kinds = Kinds({"ins": ROWS["put"], "del": ROWS["cut"]})
        table = Table(kinds, natural(kinds).told)
        steps = [("does", ("ins", 0, -number - 1, number % 6)) for number in range(60)]
        end = run(table, (10 ** 12,), 6, steps + closing(table, (10 ** 12,), 6, steps))
        self.assertEqual({end.text, *end.texts}, {end.text})
        self.assertEqual(len(end.text), 61)


if __name__ == "__main__":
    unittest.main()
