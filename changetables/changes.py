"""Changes, and what they make of texts."""

from changetables.errors import BadChange, BadText, CannotDo
from changetables.kinds import check_kinds, is_whole, needs_letter


def done(kinds, text, change):
    """The text behind a change, which may be None."""
    return done_all(kinds, text, [change])


def done_all(kinds, text, changes):
    """The text behind changes that are done one by one."""
    check_kinds(kinds)
    check_text(text)
    check_changes(kinds, changes)
    now = text
    for at, change in enumerate(changes):
        if change is not None:
            if not can_do(kinds, now, change):
                raise CannotDo(at)
            now = text_behind(kinds, now, change)
    return now


def can_do(kinds, text, change):
    """Whether a change can be done to a text."""
    name, place, letter, _ = change
    return 0 <= place <= len(text) - kinds[name][0] and letter not in text


def text_behind(kinds, text, change):
    """The text behind a change that can be done to it."""
    name, place, letter, _ = change
    width, row = kinds[name]
    put = [letter if part == "new" else text[place + part] for part in row]
    return (*text[:place], *put, *text[place + width:])


def check_text(text):
    """Raise BadText unless this is a text."""
    if not is_text(text):
        raise BadText("a text is a tuple of integers, all different")


def check_changes(kinds, changes):
    """Raise BadChange unless this is a list or tuple of changes, some perhaps None."""
    if not isinstance(changes, (list, tuple)):
        raise BadChange(None)
    for at, change in enumerate(changes):
        if change is not None and not is_change(kinds, change):
            raise BadChange(at)


def is_text(text):
    """Whether this is a tuple of integers, all different."""
    return (isinstance(text, tuple) and all([is_whole(letter) for letter in text])
            and len(set(text)) == len(text))


def is_change(kinds, change):
    """Whether this is a change of one of the kinds."""
    if not (isinstance(change, tuple) and len(change) == 4):
        return False
    name, place, letter, hand = change
    if not (name in kinds and is_whole(place) and is_whole(hand) and hand >= 0):
        return False
    if needs_letter(kinds, name):
        return is_whole(letter)
    return letter is None
