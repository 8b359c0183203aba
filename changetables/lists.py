"""Lists of changes: what they do to texts, and what becomes of them behind one another."""

from changetables.changes import can_do, check_changes, check_text, text_behind
from changetables.errors import CannotDo, SameHand
from changetables.kinds import check_kinds
from changetables.tables import check_table, form_behind


class Effect:
    """What a list of changes does to all texts: how many letters it needs, and what becomes of these."""

    def __init__(self, need, row):
        self.need = need
        self.row = row

    def __eq__(self, other):
        return isinstance(other, Effect) and self.need == other.need and self.row == other.row

    def of(self, text):
        """The text behind the list."""
        check_text(text)
        there = {letter: True for letter in text}
        if len(text) < self.need or [part for part in self.row if isinstance(part, tuple) and part[1] in there] != []:
            raise CannotDo(None)
        return (*[part[1] if isinstance(part, tuple) else text[part] for part in self.row], *text[self.need:])


def effect(kinds, changes):
    """The Effect of a list of changes; None, if there is no text to which all can be done."""
    check_kinds(kinds)
    check_changes(kinds, changes)
    return effect_of(kinds, changes)


def same_lists(kinds, one, other):
    """Whether two lists can be done to the same texts, without letters of theirs, and make the same of these."""
    check_kinds(kinds)
    check_changes(kinds, one)
    check_changes(kinds, other)
    return effect_of(kinds, one) == effect_of(kinds, other)


def lists_behind(table, one, other):
    """The forms of a list behind another one, and of the other one behind it."""
    check_table(table)
    check_changes(table.kinds, one)
    check_changes(table.kinds, other)
    check_two_hands(one, other)
    forms, again = both_behind(table, one, other)
    return without_none(forms), without_none(again)


def effect_of(kinds, changes):
    """The Effect of changes, None, if there is none: the row is done like a text, with pairs for new letters."""
    need, row = 0, ()
    for change in changes:
        if change is not None:
            name, place, letter, hand = change
            more = max(0, place + kinds[name][0] - len(row))
            row = row + tuple(range(need, need + more))
            need = need + more
            marked = (name, place, ("new", letter), hand)
            if not can_do(kinds, row, marked):
                return None
            row = text_behind(kinds, row, marked)
    return Effect(need, row)


def check_two_hands(one, other):
    """Raise SameHand unless each list is of one hand, and these are different."""
    hands = [hands_of(changes) for changes in (one, other)]
    if max(len(hands[0]), len(hands[1])) > 1 or (hands[0] != [] and hands[0] == hands[1]):
        raise SameHand("each of two lists has changes of one hand, and not of the other one's")


def hands_of(changes):
    """The hands of changes, ascending."""
    return sorted(set([change[3] for change in changes if change is not None]))


def both_behind(table, one, other):
    """The forms of the changes of two lists behind one another, None for those that are not done."""
    forms, others = [], list(other)
    for change in one:
        form, others = past(table, change, others)
        forms.append(form)
    return forms, others


def past(table, change, others):
    """The form of a change behind others, which are done one by one, and their forms behind it."""
    forms = []
    for other in others:
        forms.append(form_behind(table, other, change))
        change = form_behind(table, change, other)
    return change, forms


def without_none(changes):
    """The changes that are done."""
    return [change for change in changes if change is not None]
