"""Houses, histories and trees played as the document tells them, plainly, for the tests to compare with."""

from random import Random

from reference import done_to, form_of, letter_of


class Lost(Exception):
    """A form cannot be done."""


class Item:
    """A change that one waits for: its number, its form, and whether it was sent."""

    def __init__(self, number, form):
        self.number = number
        self.form = form
        self.sent = False


class PlainHouse:
    """A house with its hands, each change with a number of its own."""

    def __init__(self, table, text, hands):
        self.kinds, self.told = table.kinds, table.told
        self.text = text
        self.texts = [text] * hands
        self.waiting = [[] for _ in range(hands)]
        self.row = []
        self.heard = [0] * hands
        # For each hand the forms of the changes of the row behind its own changes that the house took.
        self.forms = [{} for _ in range(hands)]
        self.letters = set(text)
        self.count = 0

    def can(self, step):
        """Whether a step of the right form can be made."""
        word, told = step
        if word == "does":
            return (told[3] < len(self.texts) and told[2] not in self.letters
                    and done_to(self.kinds, self.texts[told[3]], told) is not None)
        if word == "sends":
            return any(not item.sent for item in self.waiting[told])
        return self.heard[told] < len(self.row)

    def make(self, step):
        """Make a step that can be made."""
        word, told = step
        if word == "does":
            self.letters |= {told[2]} - {None}
            self.texts[told[3]] = done_to(self.kinds, self.texts[told[3]], told)
            self.waiting[told[3]].append(Item(self.count, told))
            self.count += 1
        elif word == "sends":
            self.take(told, [item for item in self.waiting[told] if not item.sent][0])
        else:
            self.hear(told)

    def take(self, hand, item):
        """What the house does with a change that is sent."""
        item.sent = True
        form = item.form
        for place in range(self.heard[hand], len(self.row)):
            if self.row[place][0] != hand:
                other = self.forms[hand].get(place, self.row[place][2])
                self.forms[hand][place] = form_of(self.kinds, self.told, other, form)
                form = form_of(self.kinds, self.told, form, other)
        if form is not None:
            self.text = self.behind(self.text, form)
            self.row.append((hand, item.number, form))

    def hear(self, hand):
        """What a hand does with the next change of the row."""
        by, number, form = self.row[self.heard[hand]]
        self.heard[hand] += 1
        if by == hand:
            own = [item for item in self.waiting[hand] if item.number == number]
            if len(own) != 1:
                raise AssertionError("what it hears does not wait any more")
            self.waiting[hand].remove(own[0])
            return
        for item in self.waiting[hand]:
            item.form, form = (form_of(self.kinds, self.told, item.form, form),
                               form_of(self.kinds, self.told, form, item.form))
        self.waiting[hand] = [item for item in self.waiting[hand] if item.form is not None]
        if form is not None:
            self.texts[hand] = self.behind(self.texts[hand], form)

    def behind(self, text, form):
        """The text behind a form."""
        text = done_to(self.kinds, text, form)
        if text is None:
            raise Lost()
        return text

    def end(self):
        """The text, the texts, how many wait and how many are not heard."""
        return (self.text, tuple(self.texts), tuple(len(items) for items in self.waiting),
                tuple(len(self.row) - heard for heard in self.heard))

    def next_step(self):
        """The next step of closing; None, if there is none."""
        for word in ("sends", "hears"):
            for hand in range(len(self.texts)):
                if self.can((word, hand)):
                    return (word, hand)
        return None

    def all_texts(self):
        """All texts, that of the house, too."""
        return [self.text, *self.texts]


def draw_change(random, kinds, length, hand, letter):
    """A change, drawn, that can be done to texts of a length; None, if there is none."""
    names = [name for name in sorted(kinds.told) if kinds.told[name][0] <= length]
    if not names:
        return None
    name = random.choice(names)
    return (name, random.randrange(length - kinds.told[name][0] + 1), letter_of(kinds, name, letter), hand)


def closed(play):
    """The closing steps, which are made."""
    steps = []
    while (step := play.next_step()) is not None:
        steps.append(step)
        play.make(step)
    return steps


def draw_house(random, table, hands, many):
    """A text and steps, drawn, that can be made, up to the first form that cannot be done, and the PlainHouse."""
    text = tuple(range(random.randrange(6)))
    play = PlainHouse(table, text, hands)
    steps = []
    for number in range(many):
        hand = random.randrange(hands)
        step = (random.choice(("sends", "hears")), hand)
        if random.random() < 0.4:
            step = ("does", draw_change(random, table.kinds, len(play.texts[hand]), hand, 100 + number))
        if step[1] is not None and play.can(step):
            steps.append(step)
            try:
                play.make(step)
            except Lost:
                return text, steps, None
    return text, steps, play


def seeded(number):
    """A source of numbers that are always the same."""
    return Random(number)


def event_form(table, history, number, ahead):
    """The form of an event for a list of events with all that it has seen, in the words of the document."""
    change, seen = history[number]
    unseen = [early for early in ahead if early not in seen]
    if not unseen:
        return change
    last = unseen[-1]
    rest = [early for early in ahead if early != last]
    return form_of(table.kinds, table.told, event_form(table, history, number, rest), event_form(table, history, last, rest))


def history_end(table, text, history, order):
    """The text behind events in an order; None, if a form cannot be done."""
    for at, number in enumerate(order):
        form = event_form(table, history, number, list(order[:at]))
        if form is not None:
            text = done_to(table.kinds, text, form)
            if text is None:
                return None
    return text


def draw_history(random, table, many, hands):
    """A text and a history for it, drawn, of at most so many events."""
    text = tuple(range(random.randrange(5)))
    history = []
    for number in range(many):
        hand = random.randrange(hands)
        seen = {early for early in range(number) if history[early][0][3] == hand or random.random() < 0.3}
        for early in sorted(seen, reverse=True):
            seen |= set(history[early][1])
        there = history_end(table, text, history, sorted(seen))
        change = None if there is None else draw_change(random, table.kinds, len(there), hand, 100 + number)
        if change is None:
            break
        history.append((change, tuple(sorted(seen))))
    return text, history


class PlainNode:
    """A node of a tree: its text and its row, and what it has heard of its upper one's."""

    def __init__(self, text):
        self.text = text
        # Triples of a number, a form, and the node from which it came.
        self.row = []
        self.waiting = []
        self.heard = 0
        # For each lower node the forms of this row behind what the lower node has sent.
        self.forms = {}


class PlainTree:
    """A tree of houses, each change with a number of its own."""

    def __init__(self, table, text, links):
        self.kinds, self.told = table.kinds, table.told
        self.uppers = [None, *links]
        self.nodes = [PlainNode(text) for _ in self.uppers]
        self.letters = set(text)
        self.count = 0

    def can(self, step):
        """Whether a step of the right form can be made."""
        word, told = step
        if word == "does":
            return (told[3] < len(self.nodes) and told[2] not in self.letters
                    and done_to(self.kinds, self.nodes[told[3]].text, told) is not None)
        if not 1 <= told < len(self.nodes):
            return False
        if word == "up":
            return any(not item.sent for item in self.nodes[told].waiting)
        return self.nodes[told].heard < len(self.nodes[self.uppers[told]].row)

    def make(self, step):
        """Make a step that can be made."""
        word, told = step
        if word == "does":
            self.letters |= {told[2]} - {None}
            self.count += 1
            self.stand(told[3], self.count, told, told[3])
        elif word == "up":
            self.go_up(told)
        else:
            self.go_down(told)

    def stand(self, node, number, form, source):
        """Do a form at a node and put it into its row; it waits, unless it came from the upper node."""
        here = self.nodes[node]
        here.text = done_to(self.kinds, here.text, form)
        if here.text is None:
            raise Lost()
        here.row.append((number, form, source))
        if node != 0 and source != self.uppers[node]:
            here.waiting.append(Item(number, form))

    def go_up(self, node):
        """Send a change to the upper node, which takes it."""
        here, upper = self.nodes[node], self.nodes[self.uppers[node]]
        item = [item for item in here.waiting if not item.sent][0]
        item.sent = True
        form, forms = item.form, upper.forms.setdefault(node, {})
        for place in range(here.heard, len(upper.row)):
            if upper.row[place][2] != node:
                other = forms.get(place, upper.row[place][1])
                forms[place] = form_of(self.kinds, self.told, other, form)
                form = form_of(self.kinds, self.told, form, other)
        if form is not None:
            self.stand(self.uppers[node], item.number, form, node)

    def go_down(self, node):
        """Hear the next change of the upper node's row."""
        here = self.nodes[node]
        number, form, source = self.nodes[self.uppers[node]].row[here.heard]
        here.heard += 1
        if source == node:
            own = [item for item in here.waiting if item.number == number]
            if len(own) != 1:
                raise AssertionError("what it hears does not wait any more")
            here.waiting.remove(own[0])
            return
        for item in here.waiting:
            item.form, form = (form_of(self.kinds, self.told, item.form, form),
                               form_of(self.kinds, self.told, form, item.form))
        here.waiting = [item for item in here.waiting if item.form is not None]
        if form is not None:
            self.stand(node, number, form, self.uppers[node])

    def end(self):
        """The texts, how many wait and how many are not heard."""
        return (tuple(node.text for node in self.nodes), tuple(len(node.waiting) for node in self.nodes),
                (0, *(len(self.nodes[upper].row) - node.heard for node, upper in zip(self.nodes[1:], self.uppers[1:]))))

    def next_step(self):
        """The next step of closing; None, if there is none."""
        for word in ("up", "down"):
            for node in range(1, len(self.nodes)):
                if self.can((word, node)):
                    return (word, node)
        return None

    def all_texts(self):
        """All texts."""
        return [node.text for node in self.nodes]


def draw_tree(random, table, links, many):
    """A text and steps, drawn, that can be made, up to the first form that cannot be done, and the PlainTree."""
    text = tuple(range(random.randrange(6)))
    play = PlainTree(table, text, links)
    steps = []
    for number in range(many):
        node = random.randrange(len(links) + 1)
        step = (random.choice(("up", "down")), node)
        if random.random() < 0.35:
            step = ("does", draw_change(random, table.kinds, len(play.nodes[node].text), node, 100 + number))
        if step[1] is not None and play.can(step):
            steps.append(step)
            try:
                play.make(step)
            except Lost:
                return text, steps, None
    return text, steps, play
