"""Desks: point [26]."""

import unittest

from changetables.desks import Desk
from changetables.errors import BadNumber, BadTable, BadText, CannotDo, ChangeError
from changetables.houses import BadStep, NothingDone, closing, run
from changetables.tables import Table, natural
from plain import draw_house, seeded
from reference import bent, good_tables, kinds_of, raised
from test_houses import BOTH, FAR, NO_STEPS, NO_TABLES, NO_TEXTS, PUTS

PUT, CUT = ("put", 1, 7, 0), ("cut", 1, None, 1)


class Stop(Exception):
    """An error that ends a trial."""


def made(desk, step):
    """The desk behind a step."""
    word, told = step
    return {"does": desk.does, "sends": desk.sends, "hears": desk.hears}[word](told)


def state(desk):
    """All that a desk tells."""
    hands = range(len(desk.texts()))
    return (desk.steps(), desk.text(), desk.texts(), [desk.of(hand) for hand in hands], [desk.waits(hand) for hand in hands],
            len(desk))


def fresh():
    """A desk with two hands and some steps."""
    return Desk(BOTH, (1, 2, 3), 2).does(PUT).does(CUT).sends(0)


class Steps(unittest.TestCase):
    def check(self, desk, table, text, hands, steps):
        """Hold a desk against run of its steps."""
        end = run(table, text, hands, steps)
        self.assertEqual(desk.steps(), steps)
        self.assertEqual(len(desk), len(steps))
        self.assertEqual(desk.text(), end.text)
        self.assertEqual(desk.texts(), end.texts)
        self.assertEqual(tuple(desk.of(hand) for hand in range(hands)), end.texts)
        self.assertEqual(tuple(len(desk.waits(hand)) for hand in range(hands)), end.waiting)

    def test_against_run(self):
        random = seeded(91)
        tables = [natural(kinds_of(words)) for words in ("put", "put cut", "put cut swap set")]
        tables += [bent(random, table.kinds, 5) for table in tables] + good_tables(random, kinds_of("cut swap"), 3)
        for table in tables:
            for _ in range(4):
                hands = random.randrange(1, 7)
                text, steps, play = draw_house(random, table, hands, 40)
                desk = Desk(table, text, hands)
                self.check(desk, table, text, hands, [])
                for number, step in enumerate(steps):
                    if run(table, text, hands, steps[:number + 1]) is None:
                        self.assertEqual(raised(CannotDo, made, desk, step).place, number)
                        self.check(desk, table, text, hands, steps[:number])
                    else:
                        self.assertIs(made(desk, step), desk)
                        self.check(desk, table, text, hands, steps[:number + 1])
                late = None if play is None else closing(table, text, hands, steps)
                if late is not None:
                    self.assertIs(desk.close(), desk)
                    self.check(desk, table, text, hands, steps + late)
                elif play is not None:
                    before = state(desk)
                    self.assertEqual(raised(CannotDo, desk.close).place, len(steps))
                    self.assertEqual(state(desk), before)

    def test_deeds_and_undo(self):
        random = seeded(92)
        for table in [natural(kinds_of("put cut")), *good_tables(random, kinds_of("put cut swap"), 3), bent(random, kinds_of("put cut"), 4)]:
            text, many = (1, 2, 3, 4), 0
            desk, before = Desk(table, text, 3), []
            for letter in range(100, 300):
                word = random.choice(("does", "does", "sends", "hears", "close", "undo"))
                hand = random.randrange(3)
                if word == "undo":
                    if before:
                        self.assertIs(desk.undo(), desk)
                        self.assertEqual(state(desk), before.pop())
                        many += 1
                    else:
                        raised(NothingDone, desk.undo)
                    continue
                now = state(desk)
                try:
                    if word == "close":
                        desk.close()
                    elif word == "does":
                        # A letter that was taken back is as good as a new one.
                        desk.does(("put", random.randrange(len(desk.of(hand)) + 1), random.choice((letter, 50, 51)), hand))
                    else:
                        made(desk, (word, hand))
                    before.append(now)
                except (BadStep, CannotDo) as caught:
                    self.assertEqual(caught.place, len(now[0]))
                    self.assertEqual(state(desk), now)
                self.check(desk, table, text, 3, desk.steps())
            self.assertGreater(many, 5)

    def test_the_forms_that_wait(self):
        desk = fresh()
        self.assertEqual((desk.waits(0), desk.waits(1)), ([PUT], [CUT]))
        desk.hears(1)
        self.assertEqual((desk.waits(0), desk.waits(1)), ([PUT], [("cut", 2, None, 1)]))
        desk.does(("put", 0, 9, 1)).sends(1)
        self.assertEqual(desk.waits(1), [("cut", 2, None, 1), ("put", 0, 9, 1)])
        desk.hears(0)
        self.assertEqual((desk.waits(0), desk.waits(1)), ([], [("cut", 2, None, 1), ("put", 0, 9, 1)]))
        self.assertEqual((desk.of(0), desk.of(1), desk.text()), ((1, 7, 2, 3), (9, 1, 7, 3), (1, 7, 3)))
        desk.close()
        self.assertEqual((desk.waits(0), desk.waits(1)), ([], []))

    def test_one_hand_and_six(self):
        desk = Desk(PUTS, (), 1).does(("put", 0, 5, 0)).close()
        self.assertEqual((desk.steps(), desk.text()), ([("does", ("put", 0, 5, 0)), ("sends", 0), ("hears", 0)], (5,)))
        desk = Desk(PUTS, (), 6).does(("put", 0, 5, 5)).close()
        self.assertEqual(desk.texts(), ((5,),) * 6)

    def test_what_is_given_is_copied(self):
        table = natural(kinds_of("put cut"))
        desk = Desk(table, (1, 2, 3), 2).does(PUT).does(CUT)
        for entry in table.told:
            table.told[entry] = None
        self.assertEqual(desk.close().texts(), ((1, 7, 3), (1, 7, 3)))

    def test_what_is_returned_may_be_changed(self):
        desk = fresh()
        before = state(desk)
        for changed in (desk.steps(), desk.waits(0), desk.waits(1)):
            changed.append(1)
            changed[0] = 2
        self.assertEqual(state(desk), before)
        self.assertEqual([type(part) for part in (desk.steps(), desk.text(), desk.texts(), desk.of(0), desk.waits(0))],
                         [list, tuple, tuple, tuple, list])


class Undo(unittest.TestCase):
    def test_nothing_done(self):
        desk = Desk(BOTH, (1,), 2)
        self.assertIsInstance(raised(NothingDone, desk.undo), ChangeError)
        desk.does(("put", 0, 5, 0)).undo()
        raised(NothingDone, desk.undo)
        self.assertEqual(state(desk), state(Desk(BOTH, (1,), 2)))

    def test_a_close_of_several_steps(self):
        desk = fresh()
        before = state(desk)
        desk.close()
        self.assertEqual(len(desk), 8)
        self.assertIs(desk.undo(), desk)
        self.assertEqual(state(desk), before)

    def test_a_close_of_no_steps(self):
        desk = Desk(BOTH, (1,), 2)
        self.assertIs(desk.close(), desk)
        self.assertEqual(len(desk), 0)
        desk.undo()
        raised(NothingDone, desk.undo)
        desk.does(("put", 0, 5, 0)).close()
        before = state(desk)
        desk.close().close()
        self.assertEqual(state(desk), before)
        desk.undo().undo()
        self.assertEqual(state(desk), before)
        self.assertEqual(len(desk.undo()), 1)
        self.assertEqual(len(desk.undo()), 0)
        raised(NothingDone, desk.undo)

    def test_letters_that_were_taken_back(self):
        desk = Desk(BOTH, (1,), 2).does(("put", 0, 5, 0)).undo()
        desk.does(("put", 1, 5, 1))
        self.assertEqual(desk.of(1), (1, 5))
        self.assertEqual(raised(BadStep, desk.does, ("put", 0, 5, 0)).place, 1)
        # The letters of the first text and of what stays are not free.
        desk.does(("put", 0, 6, 0)).undo()
        for letter in (1, 5):
            self.assertEqual(raised(BadStep, desk.does, ("put", 0, letter, 0)).place, 1)

    def test_letters_of_the_first_text_that_were_cut(self):
        desk = Desk(BOTH, (1, 2), 2).does(("cut", 0, None, 0)).does(("put", 0, 5, 0)).does(("cut", 0, None, 0)).close()
        self.assertEqual(desk.texts(), ((2,), (2,)))
        for letter in (1, 5):
            self.assertEqual(raised(BadStep, desk.does, ("put", 0, letter, 1)).place, len(desk))

    def test_a_step_that_failed_is_no_deed(self):
        desk = Desk(BOTH, (1,), 2).does(("put", 0, 5, 0))
        raised(BadStep, desk.hears, 1)
        self.assertEqual(len(desk.undo()), 0)


class Errors(unittest.TestCase):
    def test_making(self):
        for table in NO_TABLES:
            self.assertIsNone(raised(BadTable, Desk, table, None, None).entry)
        for text in NO_TEXTS:
            raised(BadText, Desk, BOTH, text, None)
        for hands in (0, 7, -1, None, True, "2", (2,), [2]):
            raised(BadNumber, Desk, BOTH, (1,), hands)

    def test_steps_that_cannot_be_made(self):
        for desk in (Desk(BOTH, (1, 2, 3), 2), fresh()):
            before = state(desk)
            for change in [step[1] for step in NO_STEPS if isinstance(step, tuple) and step[:1] == ("does",)] + [
                    ("cut", 4, None, 0), ("cut", -1, None, 0), ("put", 0, 2, 0), ("put", 0, 9, 2), ("put", 5, 9, 0)]:
                self.assertEqual(raised(BadStep, desk.does, change).place, len(desk))
            for hand in (None, "0", True, False, -1, 2, (0,), [0]):
                self.assertEqual(raised(BadStep, desk.sends, hand).place, len(desk))
                self.assertEqual(raised(BadStep, desk.hears, hand).place, len(desk))
            self.assertEqual(raised(BadStep, desk.sends, 0).place, len(desk))
            self.assertEqual(state(desk), before)
        desk.hears(0).hears(1)
        before = state(desk)
        for asked in (desk.sends, desk.hears):
            self.assertEqual(raised(BadStep, asked, 0).place, 5)
        self.assertEqual(raised(BadStep, desk.does, ("put", 0, 7, 1)).place, 5)
        self.assertEqual(state(desk), before)

    def test_forms_that_cannot_be_done(self):
        desk = Desk(FAR, (), 2).does(("put", 0, 7, 0)).does(("put", 0, 8, 1)).sends(0)
        before = state(desk)
        self.assertEqual(raised(CannotDo, desk.sends, 1).place, 3)
        self.assertEqual(state(desk), before)
        # Of the closing steps the first ones could be done.
        desk = Desk(FAR, (), 2).does(("put", 0, 7, 0)).does(("put", 0, 8, 1))
        before = state(desk)
        self.assertEqual(raised(CannotDo, desk.close).place, 2)
        self.assertEqual(state(desk), before)
        self.assertEqual(len(desk.undo()), 1)
        desk.does(("put", 0, 9, 0)).sends(0).close()

    def test_hands(self):
        desk = fresh()
        for hand in (-1, 2, 7, None, True, "0", (0,), [0]):
            raised(BadNumber, desk.of, hand)
            raised(BadNumber, desk.waits, hand)


class Trials(unittest.TestCase):
    def test_left_without_an_error(self):
        desk = fresh()
        with desk.trial() as same:
            self.assertIs(same, desk)
            same.close()
        self.assertEqual(len(desk), 8)
        self.assertEqual(len(desk.undo()), 3)
        self.assertEqual(len(desk.undo()), 2)

    def test_left_by_an_error(self):
        desk = fresh()
        before = state(desk)
        with self.assertRaises(Stop):
            with desk.trial() as same:
                same.does(("put", 0, 9, 0)).hears(1)
                same.close()
                raise Stop()
        self.assertEqual(state(desk), before)
        # The letter is free again, and the deeds are those that there were.
        desk.does(("put", 0, 9, 0)).undo()
        self.assertEqual([len(desk.undo()) for _ in range(3)], [2, 1, 0])
        raised(NothingDone, desk.undo)

    def test_left_by_an_error_of_the_desk(self):
        desk = fresh()
        before = state(desk)
        with self.assertRaises(BadStep) as caught:
            with desk.trial():
                desk.sends(1).sends(1)
        self.assertEqual(caught.exception.place, 4)
        self.assertEqual(state(desk), before)
        for error in (KeyboardInterrupt, GeneratorExit):
            with self.assertRaises(error):
                with desk.trial():
                    desk.sends(1)
                    raise error()
            self.assertEqual(state(desk), before)

    def test_undo_in_a_trial(self):
        desk = fresh()
        before = state(desk)
        with self.assertRaises(NothingDone):
            with desk.trial():
                while True:
                    desk.undo()
        self.assertEqual(state(desk), before)
        self.assertEqual(raised(BadStep, desk.does, ("put", 0, 7, 0)).place, 3)
        with self.assertRaises(Stop):
            with desk.trial():
                desk.undo().undo().undo().does(("put", 0, 9, 0)).close()
                raise Stop()
        self.assertEqual(state(desk), before)
        with desk.trial():
            desk.undo().undo()
        self.assertEqual(len(desk), 1)

    def test_a_trial_in_a_trial(self):
        for inner in (False, True):
            for outer in (False, True):
                desk = fresh()
                states = [state(desk)]
                try:
                    with desk.trial():
                        desk.sends(1)
                        states.append(state(desk))
                        try:
                            with desk.trial():
                                desk.hears(0)
                                if inner:
                                    raise Stop()
                        except Stop:
                            self.assertEqual(state(desk), states[1])
                        states.append(state(desk))
                        desk.hears(1)
                        states.append(state(desk))
                        if outer:
                            raise Stop()
                except Stop:
                    self.assertEqual(state(desk), states[0])
                else:
                    self.assertEqual(state(desk), states[3])
                    self.assertEqual(state(desk.undo()), states[2])
                    if not inner:
                        desk.undo()
                    self.assertEqual(state(desk), states[1])
                    self.assertEqual(state(desk.undo()), states[0])

    def test_an_error_that_leaves_both(self):
        desk = fresh()
        before = state(desk)
        with self.assertRaises(Stop):
            with desk.trial():
                desk.sends(1)
                with desk.trial():
                    desk.hears(0)
                    raise Stop()
        self.assertEqual(state(desk), before)

    def test_trials_one_behind_the_other(self):
        desk = fresh()
        for _ in range(3):
            with self.assertRaises(Stop):
                with desk.trial():
                    desk.sends(1).hears(0).does(("put", 0, 9, 0))
                    raise Stop()
        with desk.trial():
            desk.sends(1).hears(0).does(("put", 0, 9, 0))
        self.assertEqual(len(desk), 6)


class Attempts(unittest.TestCase):
    def test_what_the_function_returns(self):
        desk = fresh()
        self.assertEqual(desk.attempt(lambda same: same.close().texts()), ((1, 7, 3), (1, 7, 3)))
        self.assertEqual(len(desk), 8)
        self.assertIs(desk.attempt(lambda same: same), desk)
        self.assertIsNone(desk.attempt(lambda same: None))
        self.assertEqual(desk.attempt(len), 8)

    def test_an_error(self):
        desk = fresh()
        before = state(desk)

        def work(same):
            same.close().undo().undo().does(("put", 0, 9, 1))
            raise Stop()
        with self.assertRaises(Stop):
            desk.attempt(work)
        self.assertEqual(state(desk), before)
        self.assertEqual(raised(BadStep, desk.attempt, lambda same: same.sends(1).sends(1)).place, 4)
        self.assertEqual(state(desk), before)

    def test_an_attempt_in_an_attempt(self):
        desk = fresh()

        def work(same):
            same.sends(1)
            try:
                same.attempt(lambda again: again.hears(0).hears(0).hears(0))
            except BadStep:
                return state(same)
        found = desk.attempt(work)
        self.assertEqual(found, state(desk))
        self.assertEqual(len(desk), 4)


class Many(unittest.TestCase):
    def test_many_deeds_and_all_back(self):
        desk = Desk(Table(BOTH.kinds, BOTH.told), (), 3)
        for number in range(400):
            desk.does(("put", 0, number, number % 3)).sends(number % 3)
            if number > 3:
                desk.hears((number + 1) % 3)
        self.assertEqual(len(desk.close().text()), 400)
        while len(desk) > 0:
            desk.undo()
        self.assertEqual((desk.text(), desk.texts()), ((), ((), (), ())))


if __name__ == "__main__":
    unittest.main()
