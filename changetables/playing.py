"""Trees of texts: each node is a house for its lower nodes, and a hand of its upper one.

A house with its hands is such a tree, too: the node 0 is the house, the nodes below it are the hands.
A deed is what a step does there: a word, a node, and for DOES a change, else None.
"""

from changetables.changes import can_do, text_behind
from changetables.lists import past, without_none

DOES = "does"
UP = "up"
DOWN = "down"


class Play:
    """The texts of the nodes, and what there is between each node and its upper one."""

    def __init__(self, table, text, links):
        self.table = table
        self.uppers = [None, *links]
        self.texts = [text for _ in self.uppers]
        # The forms that wait with a node for its upper one: those that it sent, and behind them the others.
        self.sent = [() for _ in self.uppers]
        self.kept = [() for _ in self.uppers]
        # The changes of the upper one's row that the node has not heard, each with its form behind all that the
        # node has sent; None and None for what came from the node itself.
        self.unheard = [() for _ in self.uppers]

    def copied(self):
        """The same once more, which can go on by itself."""
        again = Play(self.table, (), self.uppers[1:])
        again.texts = list(self.texts)
        again.sent = list(self.sent)
        again.kept = list(self.kept)
        again.unheard = list(self.unheard)
        return again


def play_all(play, deeds):
    """The number of the first deed that cannot be made, None, if all can; and whether all forms can be done."""
    letters = {letter: True for letter in play.texts[0]}
    well = True
    for at, deed in enumerate(deeds):
        # Behind a form that cannot be done there are no texts: what needs none can be wrong there all the same.
        if deed is None or letter_of(deed) in letters or (well and not can_make(play, deed)):
            return at, well
        if letter_of(deed) is not None:
            letters[letter_of(deed)] = True
        well = well and make(play, deed)
    return None, well


def close_all(play):
    """The deeds that come behind till nothing waits and all is heard, and whether all forms can be done."""
    deeds = []
    deed = next_deed(play)
    while deed is not None:
        deeds.append(deed)
        if not make(play, deed):
            return deeds, False
        deed = next_deed(play)
    return deeds, True


def goes_wrong(play, deeds):
    """Whether deeds are their own closing, and a form cannot be done, or the texts are not the same in the end."""
    bad, well = play_all(play, deeds)
    if bad is not None:
        return False
    return not well or (next_deed(play) is None and len(set(play.texts)) > 1)


def waiting_of(play):
    """How many changes wait with each node."""
    return tuple([len(sent) + len(kept) for sent, kept in zip(play.sent, play.kept)])


def unheard_of(play):
    """How many changes of its upper one's row each node has not heard."""
    return tuple([len(pairs) for pairs in play.unheard])


def next_deed(play):
    """The next deed of closing; None, if nothing waits and all is heard."""
    for node, forms in enumerate(play.kept):
        if forms != ():
            return (UP, node, None)
    for node, pairs in enumerate(play.unheard):
        if pairs != ():
            return (DOWN, node, None)
    return None


def letter_of(deed):
    """The letter of a deed's change; None, if it has none."""
    change = deed[2]
    return None if change is None else change[2]


def can_make(play, deed):
    """Whether a deed can be made: its change can be done, or there is something to send or to hear."""
    word, node, change = deed
    if word == DOES:
        return can_do(play.table.kinds, play.texts[node], change)
    waiting = play.kept if word == UP else play.unheard
    return waiting[node] != ()


def make(play, deed):
    """Make a deed that can be made; whether all forms can be done."""
    word, node, change = deed
    if word == DOES:
        return stand(play, node, change, node)
    if word == UP:
        return send(play, node)
    return hear(play, node)


def send(play, node):
    """Send the first form that was not sent up from a node; whether it can be done there."""
    first, *others = play.kept[node]
    play.kept[node] = tuple(others)
    play.sent[node] = (*play.sent[node], first)
    form, forms = past(play.table, first, [pair[1] for pair in play.unheard[node]])
    play.unheard[node] = tuple([(pair[0], behind) for pair, behind in zip(play.unheard[node], forms)])
    return stand(play, play.uppers[node], form, node)


def hear(play, node):
    """Let a node hear the next change of its upper one's row; whether its form can be done."""
    change, _ = play.unheard[node][0]
    play.unheard[node] = play.unheard[node][1:]
    if change is None:
        # What was sent ahead of it and is not in the row has come to nothing here, too: it is the first one.
        play.sent[node] = play.sent[node][1:]
        return True
    form, sent = past(play.table, change, play.sent[node])
    form, kept = past(play.table, form, play.kept[node])
    play.sent[node] = tuple(without_none(sent))
    play.kept[node] = tuple(without_none(kept))
    return stand(play, node, form, play.uppers[node])


def stand(play, node, form, source):
    """Do a form at a node, and put it into its row, if it is one; whether it can be done. It came from the source."""
    if form is None:
        return True
    if not can_do(play.table.kinds, play.texts[node], form):
        return False
    play.texts[node] = text_behind(play.table.kinds, play.texts[node], form)
    for lower, upper in enumerate(play.uppers):
        if upper == node:
            pair = (None, None) if lower == source else (form, form)
            play.unheard[lower] = (*play.unheard[lower], pair)
    if node > 0 and source != play.uppers[node]:
        play.kept[node] = (*play.kept[node], form)
    return True
