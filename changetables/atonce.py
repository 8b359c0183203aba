"""Changes that several hands make to one text at once."""

from changetables.changes import can_do, check_text, is_change
from changetables.errors import BadChange, CannotDo, SameHand
from changetables.kinds import needs_letter

FIRST_LETTER = 100


def check_at_once(kinds, text, changes):
    """Raise an error unless these are changes of different hands that can be done to the text."""
    check_text(text)
    if not isinstance(changes, (list, tuple)):
        raise BadChange(None)
    for at, change in enumerate(changes):
        if not is_change(kinds, change):
            raise BadChange(at)
    if not have_own_hands(changes):
        raise SameHand("two changes are by the same hand")
    for at, change in enumerate(changes):
        if not can_do(kinds, text, change):
            raise CannotDo(at)


def are_at_once(kinds, text, changes):
    """Whether these are changes of different hands and with different letters that can be done to the text."""
    return (all([is_change(kinds, change) for change in changes])
            and have_own_hands(changes) and have_own_letters(changes)
            and all([can_do(kinds, text, change) for change in changes]))


def have_own_hands(changes):
    """Whether no two changes are by the same hand."""
    return len(set([change[3] for change in changes])) == len(changes)


def have_own_letters(changes):
    """Whether no two changes have the same letter."""
    letters = [change[2] for change in changes if change[2] is not None]
    return len(set(letters)) == len(letters)


def change_at(kinds, name, place, hand):
    """A change of a kind with a letter that only this hand has."""
    letter = FIRST_LETTER + hand if needs_letter(kinds, name) else None
    return (name, place, letter, hand)


def shortest_text(kinds, changes):
    """The text of the letters 0, 1, .. that is just long enough for all these changes."""
    return tuple(range(max([change[1] + kinds[change[0]][0] for change in changes])))
