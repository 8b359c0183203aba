"""Houses: a text that hands change, each one on its own copy, and all of them hear in one order."""

from changetables.changes import check_text, is_change, is_text
from changetables.errors import BadNumber, ChangeError
from changetables.kinds import is_whole
from changetables.playing import DOES, DOWN, UP, Play, close_all, goes_wrong, play_all, unheard_of, waiting_of
from changetables.tables import check_table
from changetables.twohands import first_split

MOST_HANDS = 6
SENDS = "sends"
HEARS = "hears"


class BadStep(ChangeError):
    """A step that is none, or cannot be made: the place tells its number, None that there are no steps."""

    def __init__(self, place):
        self.place = place


class BadHistory(ChangeError):
    """A history that is none, or not for a text: the number tells which event, None that all is wrong."""

    def __init__(self, number):
        self.number = number


class BadScript(ChangeError):
    """A text of kinds, of a table or of a run that cannot be read, from this line and column on."""

    def __init__(self, line, column):
        self.line = line
        self.column = column


class NothingDone(ChangeError):
    """There is nothing that can be taken back."""


class End:
    """What there is behind steps: the texts, how many changes wait, and how many are not heard."""

    def __init__(self, text, texts, waiting, unheard):
        self.text = text
        self.texts = texts
        self.waiting = waiting
        self.unheard = unheard

    def __eq__(self, other):
        return (isinstance(other, End) and self.text == other.text and self.texts == other.texts
                and self.waiting == other.waiting and self.unheard == other.unheard)


class Serves:
    """All steps of so many hands end with the same text."""

    def __init__(self, hands):
        self.hands = hands

    def __eq__(self, other):
        return isinstance(other, Serves) and self.hands == other.hands

    def __bool__(self):
        return True

    def shows(self, table, hands):
        """Whether they do by the table, and these are so many hands."""
        check_table(table)
        check_hands(hands, 2)
        return is_whole(self.hands) and self.hands == hands and first_split(table) is None


class Fails:
    """Steps by which a form cannot be done, or the texts are not the same in the end."""

    def __init__(self, text, steps):
        self.text = text
        self.steps = list(steps)

    def __eq__(self, other):
        return isinstance(other, Fails) and self.text == other.text and self.steps == other.steps

    def __bool__(self):
        return False

    def shows(self, table, hands):
        """Whether these are such steps of so many hands, which leave nothing to send or to hear."""
        check_table(table)
        check_hands(hands, 2)
        if not (is_text(self.text) and isinstance(self.steps, list)):
            return False
        return goes_wrong(house_of(table, self.text, hands), deeds_of(table.kinds, hands, self.steps))


def run(table, text, hands, steps):
    """The End behind steps; None, if a form cannot be done."""
    play = played(table, text, hands, steps)
    return None if play is None else end_of(play)


def closing(table, text, hands, steps):
    """The steps that come behind these till no change waits and all is heard; None, if a form cannot be done."""
    play = played(table, text, hands, steps)
    if play is None:
        return None
    deeds, well = close_all(play)
    return [step_of(deed) for deed in deeds] if well else None


def judge_house(table, hands):
    """A Serves, if all steps of so many hands end with the same text, otherwise a Fails."""
    check_table(table)
    check_hands(hands, 2)
    split = first_split(table)
    if split is None:
        return Serves(hands)
    steps = [(DOES, split.one), (DOES, split.other)]
    play = house_of(table, split.text, hands)
    play_all(play, deeds_of(table.kinds, hands, steps))
    deeds, _ = close_all(play)
    return Fails(split.text, steps + [step_of(deed) for deed in deeds])


def played(table, text, hands, steps):
    """The Play of a house behind steps; None, if a form cannot be done."""
    check_table(table)
    check_text(text)
    check_hands(hands, 1)
    if not isinstance(steps, (list, tuple)):
        raise BadStep(None)
    play = house_of(table, text, hands)
    bad, well = play_all(play, deeds_of(table.kinds, hands, steps))
    if bad is not None:
        raise BadStep(bad)
    return play if well else None


def house_of(table, text, hands):
    """The Play of a house with so many hands, at first."""
    return Play(table, text, [0 for _ in range(hands)])


def end_of(play):
    """The End of a house where it is now."""
    first, *texts = play.texts
    return End(first, tuple(texts), waiting_of(play)[1:], unheard_of(play)[1:])


def deeds_of(kinds, hands, steps):
    """What steps do in the tree of a house, None for each one that is no step for so many hands."""
    return [deed_of(kinds, hands, step) for step in steps]


def deed_of(kinds, hands, step):
    """What a step does in the tree of a house; None, if it is no step for so many hands."""
    if not (isinstance(step, tuple) and len(step) == 2):
        return None
    word, told = step
    if word == DOES and is_change(kinds, told) and told[3] < hands:
        return (DOES, told[3] + 1, told)
    if word in (SENDS, HEARS) and is_hand(told, hands):
        return (UP if word == SENDS else DOWN, told + 1, None)
    return None


def step_of(deed):
    """The step that sends or hears what a deed does."""
    word, node, _ = deed
    return (SENDS if word == UP else HEARS, node - 1)


def is_hand(hand, hands):
    """Whether this is the number of one of so many hands."""
    return is_whole(hand) and 0 <= hand < hands


def check_hands(hands, least):
    """Raise BadNumber unless this is a number of hands, not less than the least."""
    if not (is_whole(hands) and least <= hands <= MOST_HANDS):
        raise BadNumber("a house has up to 6 hands")
