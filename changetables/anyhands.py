"""Any number of hands: whether all changes make the same text in all orders."""

from changetables.atonce import are_at_once, check_at_once, shortest_text
from changetables.changes import can_do, check_text, is_text, text_behind
from changetables.errors import BadChange, BadNumber
from changetables.kinds import is_whole
from changetables.tables import check_table, form_behind
from changetables.triples import first_turn
from changetables.twohands import first_split

MOST_CHANGES = 5


class Agrees:
    """Any number of changes make the same text in all orders."""

    def __eq__(self, other):
        return isinstance(other, Agrees)

    def __bool__(self):
        return True

    def shows(self, table):
        """Whether they do by the table."""
        check_table(table)
        return first_split(table) is None and first_turn(table.kinds, table.told) is None


class Turns:
    """Three changes, and two orders in which they do not make the same text, or cannot all be done."""

    def __init__(self, text, changes, one, other):
        self.text = text
        self.changes = list(changes)
        self.one = one
        self.other = other

    def __eq__(self, other):
        return (isinstance(other, Turns) and self.text == other.text and self.changes == other.changes
                and self.one == other.one and self.other == other.other)

    def __bool__(self):
        return False

    def shows(self, table):
        """Whether these are three such changes and two such orders."""
        check_table(table)
        return (is_text(self.text) and isinstance(self.changes, list) and len(self.changes) == 3
                and are_at_once(table.kinds, self.text, self.changes)
                and is_order(self.one, 3) and is_order(self.other, 3)
                and are_parted(table, self.text, self.changes, (self.one, self.other)))


def in_order(table, text, changes, order):
    """The text behind all changes, done in an order; None, if some form cannot be done."""
    check_table(table)
    check_at_once(table.kinds, text, changes)
    if not is_order(order, len(changes)):
        raise BadNumber("an order is a tuple of the numbers of all changes")
    return end_in_order(table, text, changes, order)


def all_orders(table, text, changes):
    """For each order the text behind all changes; None, if some form cannot be done."""
    check_table(table)
    check_text(text)
    if isinstance(changes, (list, tuple)) and len(changes) > MOST_CHANGES:
        raise BadChange(None)
    check_at_once(table.kinds, text, changes)
    ways = [((), (text, list(changes)))]
    for _ in changes:
        # What is done ahead is the same for all orders that begin alike.
        ways = [((*order, at), next_step(table, state, at))
                for order, state in ways for at in range(len(changes)) if at not in order]
    return {order: state[0] for order, state in ways}


def judge_any(table):
    """An Agrees, if all changes make the same text in all orders, otherwise a Splits or a Turns."""
    check_table(table)
    split = first_split(table)
    if split is not None:
        return split
    three = first_turn(table.kinds, table.told)
    if three is None:
        return Agrees()
    return Turns(shortest_text(table.kinds, three), three, (0, 1, 2), (1, 0, 2))


def lets_agree(table, many):
    """Whether a table lets all two changes meet well, and, with 3, any number of changes agree."""
    return first_split(table) is None and (many == 2 or first_turn(table.kinds, table.told) is None)


def is_two_or_three(many):
    """Whether this is 2, for two hands, or 3, for any number."""
    return is_whole(many) and 2 <= many <= 3


def end_in_order(table, text, changes, order):
    """The text behind all changes, done in an order; None, if some form cannot be done."""
    state = (text, list(changes))
    for at in order:
        state = next_step(table, state, at)
    return state[0]


def next_step(table, state, at):
    """The text behind one more of the changes, None if it cannot be done, and the forms of the others there."""
    text, forms = state
    form = forms[at]
    if text is None or form is None:
        return state
    if not can_do(table.kinds, text, form):
        return (None, forms)
    behind = [None if each == at else form_behind(table, other, form) for each, other in enumerate(forms)]
    return (text_behind(table.kinds, text, form), behind)


def are_parted(table, text, changes, orders):
    """Whether changes do not make the same text in two orders, or cannot all be done."""
    one, other = [end_in_order(table, text, changes, order) for order in orders]
    return one is None or one != other


def is_order(order, many):
    """Whether this is a tuple of the numbers below so many, each once."""
    return (isinstance(order, tuple) and all([is_whole(number) for number in order])
            and sorted(order) == list(range(many)))
