"""Trees of houses: each node is a house for its lower nodes, and a hand of its upper one."""

from changetables.changes import check_text, is_change, is_text
from changetables.errors import BadNumber
from changetables.houses import BadStep
from changetables.kinds import is_whole
from changetables.playing import DOES, DOWN, UP, Play, close_all, goes_wrong, play_all, unheard_of, waiting_of
from changetables.tables import check_table
from changetables.twohands import first_split

MOST_NODES = 6


class TreeEnd:
    """What there is behind steps: the texts, how many changes wait, and how many are not heard."""

    def __init__(self, texts, waiting, unheard):
        self.texts = texts
        self.waiting = waiting
        self.unheard = unheard

    def __eq__(self, other):
        return (isinstance(other, TreeEnd) and self.texts == other.texts
                and self.waiting == other.waiting and self.unheard == other.unheard)


class Grows:
    """All steps in the tree with these links end with the same text."""

    def __init__(self, links):
        self.links = list(links)

    def __eq__(self, other):
        return isinstance(other, Grows) and self.links == other.links

    def __bool__(self):
        return True

    def shows(self, table, links):
        """Whether they do by the table, and these are the links."""
        check_table(table)
        check_links(links)
        return are_links(self.links) and self.links == list(links) and first_split(table) is None


class Withers:
    """Steps by which a form cannot be done, or the texts are not the same in the end."""

    def __init__(self, text, steps):
        self.text = text
        self.steps = list(steps)

    def __eq__(self, other):
        return isinstance(other, Withers) and self.text == other.text and self.steps == other.steps

    def __bool__(self):
        return False

    def shows(self, table, links):
        """Whether these are such steps in the tree with the links, which leave nothing to go up or down."""
        check_table(table)
        check_links(links)
        if not (is_text(self.text) and isinstance(self.steps, list)):
            return False
        return goes_wrong(Play(table, self.text, links), deeds_of(table.kinds, links, self.steps))


def run_tree(table, text, links, steps):
    """The TreeEnd behind steps; None, if a form cannot be done."""
    play = played(table, text, links, steps)
    return None if play is None else TreeEnd(tuple(play.texts), waiting_of(play), unheard_of(play))


def closing_tree(table, text, links, steps):
    """The steps that come behind these till nothing waits and all is heard; None, if a form cannot be done."""
    play = played(table, text, links, steps)
    if play is None:
        return None
    deeds, well = close_all(play)
    return [step_of(deed) for deed in deeds] if well else None


def judge_tree(table, links):
    """A Grows, if all steps in the tree with the links end with the same text, otherwise a Withers."""
    check_table(table)
    check_links(links)
    split = first_split(table)
    if split is None:
        return Grows(links)
    # The hands of the two changes are 0 and 1: the node 0, and one that is right below it in all trees.
    steps = [(DOES, split.one), (DOES, split.other)]
    play = Play(table, split.text, links)
    play_all(play, deeds_of(table.kinds, links, steps))
    deeds, _ = close_all(play)
    return Withers(split.text, steps + [step_of(deed) for deed in deeds])


def played(table, text, links, steps):
    """The Play of a tree behind steps; None, if a form cannot be done."""
    check_table(table)
    check_text(text)
    check_links(links)
    if not isinstance(steps, (list, tuple)):
        raise BadStep(None)
    play = Play(table, text, links)
    bad, well = play_all(play, deeds_of(table.kinds, links, steps))
    if bad is not None:
        raise BadStep(bad)
    return play if well else None


def deeds_of(kinds, links, steps):
    """What steps do in a tree, None for each one that is no step there."""
    return [deed_of(kinds, len(links) + 1, step) for step in steps]


def deed_of(kinds, nodes, step):
    """What a step does in a tree of so many nodes; None, if it is no step there."""
    if not (isinstance(step, tuple) and len(step) == 2):
        return None
    word, told = step
    if word == DOES and is_change(kinds, told) and told[3] < nodes:
        return (DOES, told[3], told)
    if word in (UP, DOWN) and is_whole(told) and 1 <= told < nodes:
        return (word, told, None)
    return None


def step_of(deed):
    """The step that goes up or down as a deed does."""
    word, node, _ = deed
    return (word, node)


def check_links(links):
    """Raise BadNumber unless these are the upper nodes of 1 to 5 nodes."""
    if not (isinstance(links, (list, tuple)) and are_links(links)):
        raise BadNumber("links are the lesser upper nodes of the nodes from 1 on, of at most 6 nodes")


def are_links(links):
    """Whether these are, for 1 to 5 nodes from 1 on, lesser nodes."""
    return (1 <= len(links) < MOST_NODES
            and all([is_whole(upper) and 0 <= upper <= at for at, upper in enumerate(links)]))
