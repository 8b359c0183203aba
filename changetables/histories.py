"""Histories: events of several hands, each with the earlier ones that its hand has seen."""

from changetables.anyhands import is_order
from changetables.changes import can_do, check_text, is_change, is_text, text_behind
from changetables.errors import BadNumber
from changetables.houses import BadHistory
from changetables.kinds import is_whole
from changetables.tables import check_table, form_behind

MOST_EVENTS = 6


class SameEnd:
    """All orders make this text."""

    def __init__(self, text):
        self.text = text

    def __eq__(self, other):
        return isinstance(other, SameEnd) and self.text == other.text

    def __bool__(self):
        return True

    def shows(self, table, text, history):
        """Whether all orders of the history make it of the text."""
        told = checked(table, text, history)
        return is_text(self.text) and all([end == self.text for end in ends_of(told, text).values()])


class PartedEnd:
    """Two orders that do not make the same text, or one of which cannot be done."""

    def __init__(self, one, other):
        self.one = one
        self.other = other

    def __eq__(self, other):
        return isinstance(other, PartedEnd) and self.one == other.one and self.other == other.other

    def __bool__(self):
        return False

    def shows(self, table, text, history):
        """Whether these are two such orders of the history for the text."""
        told = checked(table, text, history)
        if not (has_order(history, self.one) and has_order(history, self.other)):
            return False
        end, again = [end_behind(told, text, order) for order in (self.one, self.other)]
        return end is None or end != again


class Forms:
    """The forms of the events of a history."""

    def __init__(self, table, history):
        self.table = table
        self.history = history
        # The forms that were asked already, by the number of the event and the list.
        self.known = {}

    def of(self, number, ahead):
        """The form of an event for a list of events with all that it has seen."""
        key = (number, ahead)
        if key not in self.known:
            change, seen = self.history[number]
            unseen = [at for at, early in enumerate(ahead) if early not in seen]
            if unseen == []:
                self.known[key] = change
            else:
                last = unseen[-1]
                without = ahead[:last] + ahead[last + 1:]
                self.known[key] = form_behind(self.table, self.of(number, without), self.of(ahead[last], without))
        return self.known[key]


def orders_of(table, history):
    """The orders in which the events can be done, ascending."""
    check_table(table)
    check_history(table.kinds, history)
    orders = [()]
    for _ in history:
        orders = [(*order, number) for order in orders for number in next_numbers(history, order)]
    return orders


def done_in(table, text, history, order):
    """The text behind all events, done in an order; None, if some form cannot be done."""
    told = checked(table, text, history)
    if not has_order(history, order):
        raise BadNumber("an order has each event once, behind all that it has seen")
    return end_behind(told, text, order)


def judge_history(table, text, history):
    """A SameEnd, if all orders make the same text, otherwise a PartedEnd."""
    ends = ends_of(checked(table, text, history), text)
    first, *others = list(ends)
    if ends[first] is None:
        return PartedEnd(first, (others + [first])[0])
    for order in others:
        if ends[order] != ends[first]:
            return PartedEnd(first, order)
    return SameEnd(ends[first])


def checked(table, text, history):
    """The Forms of a history that is one, and is for the text."""
    check_table(table)
    check_history(table.kinds, history)
    check_text(text)
    forms = Forms(table, history)
    for number in range(len(history)):
        if not is_for_text(forms, text, number):
            raise BadHistory(number)
    return forms


def check_history(kinds, history):
    """Raise BadHistory unless this is a list or tuple of at most six events."""
    if not (isinstance(history, (list, tuple)) and len(history) <= MOST_EVENTS):
        raise BadHistory(None)
    for number in range(len(history)):
        if not is_event(kinds, history, number):
            raise BadHistory(number)


def is_event(kinds, history, number):
    """Whether this is an event behind those ahead of it."""
    event = history[number]
    if not (isinstance(event, tuple) and len(event) == 2 and is_change(kinds, event[0])):
        return False
    change, seen = event
    if not (isinstance(seen, tuple) and all([is_whole(early) and 0 <= early < number for early in seen])):
        return False
    by_hand = [early for early in range(number) if history[early][0][3] == change[3]]
    wanted = by_hand + [far for early in seen for far in history[early][1]]
    return list(seen) == sorted(set(seen)) and all([early in seen for early in wanted])


def is_for_text(forms, text, number):
    """Whether the change of an event can be done to the text behind all that it has seen, with a new letter."""
    change, seen = forms.history[number]
    letters = [event[0][2] for event in forms.history[:number]]
    if change[2] is not None and (change[2] in text or change[2] in letters):
        return False
    there = end_behind(forms, text, seen)
    return there is not None and can_do(forms.table.kinds, there, change)


def has_order(history, order):
    """Whether this is a tuple of the numbers of all events, each behind all that it has seen."""
    return (is_order(order, len(history))
            and all([early in order[:at] for at, number in enumerate(order) for early in history[number][1]]))


def next_numbers(history, order):
    """The numbers of the events that can be next behind those of an order."""
    return [number for number, event in enumerate(history)
            if number not in order and all([early in order for early in event[1]])]


def ends_of(forms, text):
    """For each order, ascending, the text behind all events; None, if some form cannot be done."""
    ways = [((), text)]
    for _ in forms.history:
        # What is done ahead is the same for all orders that begin alike.
        ways = [((*order, number), next_text(forms, end, order, number))
                for order, end in ways for number in next_numbers(forms.history, order)]
    return {order: end for order, end in ways}


def end_behind(forms, text, order):
    """The text behind events in an order, which have seen no others; None, if some form cannot be done."""
    for at, number in enumerate(order):
        text = next_text(forms, text, order[:at], number)
    return text


def next_text(forms, text, ahead, number):
    """The text behind one more event, None, if its form cannot be done, or one ahead could not."""
    if text is None:
        return None
    form = forms.of(number, ahead)
    if form is None:
        return text
    kinds = forms.table.kinds
    return text_behind(kinds, text, form) if can_do(kinds, text, form) else None
