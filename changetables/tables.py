"""Tables: how a change is done behind another one that was meant for the same text."""

from changetables.changes import check_changes
from changetables.errors import BadTable, SameHand
from changetables.kinds import Kinds, check_kinds, is_whole, needs_letter

FARTHEST = 3
MOST_SHIFT = 2


class Table:
    """A value for each entry of kinds."""

    def __init__(self, kinds, told):
        check_kinds(kinds)
        if not isinstance(told, dict):
            raise BadTable(None)
        self.kinds = Kinds(kinds.told)
        self.told = values_in_order(kinds, told)

    def __eq__(self, other):
        return isinstance(other, Table) and self.kinds == other.kinds and self.told == other.told

    def behind(self, one, other):
        """How the first change is done behind the second one; None, if not at all."""
        check_changes(self.kinds, (one, other))
        return form_behind(self, one, other)

    def with_entry(self, entry, value):
        """This table with another value of an entry."""
        if not (is_entry(self.kinds, entry) and is_value(self.kinds, entry, value)):
            raise BadTable(entry)
        told = {each: self.told[each] for each in self.told}
        told[entry] = value
        return Table(self.kinds, told)


def form_behind(table, one, other):
    """The form of a change behind another one; each of them may be None."""
    return form_by(table.kinds, table.told, one, other)


def form_by(kinds, told, one, other):
    """The form of a change behind another one, by the values told for entries; each change may be None."""
    if one is None or other is None:
        return one
    return with_value(kinds, one, told[entry_of(one, other)])


def with_value(kinds, change, value):
    """The form that a value of its entry gives a change; None, if it is not done at all."""
    if value is None:
        return None
    _, place, letter, hand = change
    name, shift = value
    return (name, place + shift, letter if needs_letter(kinds, name) else None, hand)


def entry_of(one, other):
    """The entry by which the first change is done behind the second one."""
    if one[3] == other[3]:
        raise SameHand("two changes of the same hand have no entry")
    return (one[0], other[0], gap_of(one[1] - other[1]), one[3] < other[3])


def gap_of(distance):
    """The gap of an entry for changes at this distance."""
    return max(-FARTHEST, min(FARTHEST, distance))


def partner(entry):
    """The entry of the same two changes the other way round."""
    one, other, gap, less = entry
    return (other, one, -gap, not less)


def check_table(table):
    """Raise BadTable unless this is a Table."""
    if not isinstance(table, Table):
        raise BadTable(None)


def natural(kinds):
    """The table by which changes stay, are moved by what the other ones grow, or are dropped."""
    check_kinds(kinds)
    return Table(kinds, {entry: natural_value(kinds, entry) for entry in all_entries(kinds)})


def natural_value(kinds, entry):
    """The value of an entry in the natural table."""
    name, other, gap, less = entry
    ahead = gap + kinds[name][0] <= 0
    after = gap >= kinds[other][0]
    # Only two changes of the width 0 at the same place are both; then the hands decide.
    if ahead and (less or not after):
        return (name, 0)
    if after:
        return (name, kinds.growth(other))
    return None


def values_of(kinds, entry):
    """All values that an entry can have, None first, then ascending."""
    check_kinds(kinds)
    if not is_entry(kinds, entry):
        raise BadTable(entry)
    names = [name for name in kinds.names() if has_letter_for(kinds, entry, name)]
    return [None, *[(name, shift) for name in names for shift in range(-MOST_SHIFT, MOST_SHIFT + 1)]]


def all_entries(kinds):
    """All entries of tables for these kinds, ascending."""
    return [(one, other, gap, less)
            for one in kinds.names() for other in kinds.names()
            for gap in range(-FARTHEST, FARTHEST + 1) for less in (False, True)]


def values_in_order(kinds, told):
    """What is told for the entries of kinds, ascending; BadTable, if this makes no table."""
    # To a dict 1 and True are the same key: only its own keys tell which of them it has.
    found = {key: True for key in told if is_entry(kinds, key)}
    entries = all_entries(kinds)
    for entry in entries:
        if entry not in found or not is_value(kinds, entry, told[entry]):
            raise BadTable(entry)
    if len(found) < len(told):
        raise BadTable(None)
    return {entry: told[entry] for entry in entries}


def is_entry(kinds, entry):
    """Whether this is an entry of tables for these kinds."""
    if not (isinstance(entry, tuple) and len(entry) == 4):
        return False
    one, other, gap, less = entry
    return (one in kinds and other in kinds and is_whole(gap) and -FARTHEST <= gap <= FARTHEST
            and isinstance(less, bool))


def is_value(kinds, entry, value):
    """Whether this is a value of an entry."""
    if value is None:
        return True
    if not (isinstance(value, tuple) and len(value) == 2):
        return False
    name, shift = value
    return (name in kinds and has_letter_for(kinds, entry, name)
            and is_whole(shift) and -MOST_SHIFT <= shift <= MOST_SHIFT)


def has_letter_for(kinds, entry, name):
    """Whether the first change of an entry has a letter for this kind, if it needs one."""
    return needs_letter(kinds, entry[0]) or not needs_letter(kinds, name)
