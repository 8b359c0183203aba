"""Changes that are taken back; tables and changes for other names, other hands, and texts that are read backwards."""

from changetables.changes import can_do, check_changes, check_text, is_change, text_behind
from changetables.counting import mirrored
from changetables.errors import BadChange, BadKinds, CannotDo
from changetables.kinds import Kinds, check_kinds, is_name
from changetables.tables import Table, check_table


def taken_back(kinds, text, change):
    """The change that leads from the text behind a change back to the text; None, if it is of none of the kinds."""
    check_one(kinds, text, change)
    return change_back(kinds, text, change)


def kind_back(kinds, name):
    """The name of the kind of the changes that take those of a kind back; None, if there is none."""
    check_kinds(kinds)
    if name not in kinds:
        raise BadKinds(name)
    return name_back(kinds, name)


def list_back(kinds, text, changes):
    """The changes that lead back from the text behind changes, one by one; None, if one of them has none."""
    check_kinds(kinds)
    check_text(text)
    check_changes(kinds, changes)
    steps = []
    for at, change in enumerate(changes):
        if change is not None:
            if not can_do(kinds, text, change):
                raise CannotDo(at)
            steps.append(change_back(kinds, text, change))
            text = text_behind(kinds, text, change)
    return None if None in steps else steps[::-1]


def renamed(table, names):
    """The table with other names of kinds."""
    check_table(table)
    if not are_new_names(table.kinds, names):
        raise BadKinds(None)
    kinds = Kinds({names[name]: table.kinds[name] for name in names})
    return Table(kinds, {renamed_entry(names, entry): renamed_value(names, table.told[entry]) for entry in table.told})


def exchanged(table):
    """The table in which hands that are less and those that are not have changed their parts."""
    return mirrored(table)


def turned_kinds(kinds):
    """The Kinds, by the same names, of what changes do to texts that are read backwards."""
    check_kinds(kinds)
    return Kinds({name: turned_kind(kinds[name]) for name in kinds.names()})


def turned(kinds, text, change):
    """The change of the turned kinds that does the same to the text read backwards."""
    check_one(kinds, text, change)
    name, place, letter, hand = change
    return (name, len(text) - place - kinds[name][0], letter, hand)


def check_one(kinds, text, change):
    """Raise an error unless this is a change that can be done to the text."""
    check_kinds(kinds)
    check_text(text)
    if not is_change(kinds, change):
        raise BadChange(0)
    if not can_do(kinds, text, change):
        raise CannotDo(0)


def change_back(kinds, text, change):
    """The change that leads back to the text to which a change can be done; None, if it is of none of the kinds."""
    name, place, _, hand = change
    back = name_back(kinds, name)
    if back is None:
        return None
    lost = lost_numbers(kinds[name])
    return (back, place, text[place + lost[0]] if lost != [] else None, hand)


def name_back(kinds, name):
    """The name of the kind that takes changes of a kind back; None, if there is none."""
    back = turned_back(kinds[name])
    return ([each for each in kinds.names() if kinds[each] == back] + [None])[0]


def turned_back(kind):
    """The width and the row that take a kind back; no kind has them if there is none."""
    width, row = kind
    return (len(row), tuple([row.index(number) if number in row else "new" for number in range(width)]))


def lost_numbers(kind):
    """The numbers of the letters that changes of a kind take away."""
    width, row = kind
    return [number for number in range(width) if number not in row]


def are_new_names(kinds, names):
    """Whether this is a dict from all names of the kinds to different names."""
    if not (isinstance(names, dict) and len(names) == len(kinds) and all([name in kinds for name in names])):
        return False
    return all([is_name(name) for name in names.values()]) and len(set(list(names.values()))) == len(names)


def renamed_entry(names, entry):
    """An entry with other names of kinds."""
    one, other, gap, less = entry
    return (names[one], names[other], gap, less)


def renamed_value(names, value):
    """A value with another name of its kind."""
    return None if value is None else (names[value[0]], value[1])


def turned_kind(kind):
    """What a kind does to texts that are read backwards."""
    width, row = kind
    return (width, tuple([part if part == "new" else width - 1 - part for part in row[::-1]]))
