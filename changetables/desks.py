"""Desks: a house with its hands that one works at, step by step, and back again."""

from changetables.changes import check_text
from changetables.errors import BadNumber, CannotDo
from changetables.houses import HEARS, SENDS, BadStep, NothingDone, check_hands, deed_of, house_of, is_hand, step_of
from changetables.playing import DOES, can_make, close_all, letter_of, make
from changetables.tables import Table, check_table


class Desk:
    """A house with its hands."""

    def __init__(self, table, text, hands):
        check_table(table)
        check_text(text)
        check_hands(hands, 1)
        # What has stood is never changed: each deed goes on with a copy.
        self.play = house_of(Table(table.kinds, table.told), text, hands)
        self.letters = {letter: True for letter in text}
        self.made = []
        # For each deed that is not undone, the Play ahead of it and the number of steps.
        self.deeds = []

    def __len__(self):
        return len(self.made)

    def does(self, change):
        """A hand does a change to its text."""
        do_step(self, (DOES, change))
        return self

    def sends(self, hand):
        """A hand sends its next change to the house."""
        do_step(self, (SENDS, hand))
        return self

    def hears(self, hand):
        """A hand hears the next change of the house."""
        do_step(self, (HEARS, hand))
        return self

    def close(self):
        """Do the steps that are left till no change waits and all is heard."""
        play = self.play.copied()
        deeds, well = close_all(play)
        if not well:
            raise CannotDo(len(self.made))
        keep_deed(self, play, [step_of(deed) for deed in deeds])
        return self

    def undo(self):
        """Take the last deed back."""
        if self.deeds == []:
            raise NothingDone("there is no deed that is not undone")
        play, many = self.deeds.pop()
        for word, told in self.made[many:]:
            if word == DOES and told[2] is not None:
                del self.letters[told[2]]
        del self.made[many:]
        self.play = play
        return self

    def steps(self):
        """All steps made."""
        return list(self.made)

    def text(self):
        """The text of the house."""
        return self.play.texts[0]

    def texts(self):
        """The texts of the hands."""
        return tuple(self.play.texts[1:])

    def of(self, hand):
        """The text of a hand."""
        return self.play.texts[node_of(self, hand)]

    def waits(self, hand):
        """The forms that wait with a hand."""
        node = node_of(self, hand)
        return [*self.play.sent[node], *self.play.kept[node]]

    def trial(self):
        """A Trial: all is as it was, if an error ends it."""
        return Trial(self)

    def attempt(self, work):
        """What a function returns for the desk, in a trial."""
        with self.trial() as same:
            return work(same)


class Trial:
    """Work at a desk that an error takes back."""

    def __init__(self, desk):
        self.desk = desk
        self.play = None
        self.letters = {}
        self.made = []
        self.deeds = []

    def __enter__(self):
        self.play = self.desk.play
        self.letters = {letter: True for letter in self.desk.letters}
        self.made = list(self.desk.made)
        self.deeds = list(self.desk.deeds)
        return self.desk

    def __exit__(self, kind, value, trace):
        desk = self.desk
        if kind is not None:
            desk.play = self.play
            desk.letters = self.letters
            desk.made = self.made
            desk.deeds = self.deeds


def do_step(desk, step):
    """Do one step at a desk; an error changes nothing."""
    number = len(desk.made)
    deed = deed_of(desk.play.table.kinds, len(desk.play.texts) - 1, step)
    if deed is None or letter_of(deed) in desk.letters or not can_make(desk.play, deed):
        raise BadStep(number)
    play = desk.play.copied()
    if not make(play, deed):
        raise CannotDo(number)
    if letter_of(deed) is not None:
        desk.letters[letter_of(deed)] = True
    keep_deed(desk, play, [step])


def keep_deed(desk, play, steps):
    """Go on with what a deed has made of a desk, by these steps."""
    desk.deeds.append((desk.play, len(desk.made)))
    desk.made.extend(steps)
    desk.play = play


def node_of(desk, hand):
    """The node of a hand in the tree of its house."""
    if not is_hand(hand, len(desk.play.texts) - 1):
        raise BadNumber("the desk has no such hand")
    return hand + 1
