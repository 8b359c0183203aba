"""Repairs: by which entries a table fails, and the nearest table that does."""

from changetables.anyhands import is_two_or_three, lets_agree
from changetables.errors import BadNumber
from changetables.kinds import is_whole
from changetables.meeting import choices, distances, good_pairs, lesser_entries, lesser_of, meets_at
from changetables.tables import Table, check_table, is_entry, is_value, partner
from changetables.triples import asked_entries, first_turn

MOST_CHANGED = 3


class Repair:
    """Entries of a table, and values for them by which it does."""

    def __init__(self, changes, many):
        self.changes = {entry: changes[entry] for entry in changes}
        self.many = many

    def __eq__(self, other):
        return isinstance(other, Repair) and self.changes == other.changes and self.many == other.many

    def shows(self, table):
        """Whether these are other values than those of the table, and the table does with them."""
        check_table(table)
        if not (is_two_or_three(self.many) and are_other_values(table, self.changes)):
            return False
        return lets_agree(Table(table.kinds, with_changes(table.told, self.changes)), self.many)


def failing(table):
    """The pairs of an entry and its partner, the lesser one first, by which some two changes do not meet well."""
    check_table(table)
    return [(entry, partner(entry)) for entry in failing_entries(table)]


def friends(table):
    """The pairs of names, the lesser or the same one first, for which all two changes meet well."""
    check_table(table)
    foes = [sorted(entry[:2]) for entry in failing_entries(table)]
    names = table.kinds.names()
    return [(one, other) for one in names for other in names if one <= other and [one, other] not in foes]


def repaired(table):
    """The first Repair with the fewest entries by which all two changes meet well; None, if there is none."""
    check_table(table)
    told = with_changes(table.told, {})
    for entry in failing_entries(table):
        pairs = good_pairs(table.kinds, entry)
        if pairs == []:
            return None
        # No two pairs of partners have an entry in common: the best for each are the best for all.
        fewest = min([count_changed(told, entry, pair) for pair in pairs])
        best = [pair for pair in pairs if count_changed(told, entry, pair) == fewest]
        told[entry], told[partner(entry)] = best[0]
    return Repair(changed(table, told), 2)


def repaired_any(table, most):
    """A Repair by which any number of changes agree, with the fewest entries, at most so many; None, if none has."""
    check_table(table)
    if not (is_whole(most) and 0 <= most <= MOST_CHANGED):
        raise BadNumber("at most 0 to 3 entries can be asked for")
    failed = failing_entries(table)
    if len(failed) > most:
        return None
    options = choices(table.kinds, {})
    for many in range(len(failed), most + 1):
        told = search_near(table.kinds, table.told, options, ({}, many))
        if told is not None:
            return Repair(changed(table, told), 3)
    return None


def search_near(kinds, told, options, limits):
    """The values of a table by which any number agree, None, if there is none within the limits.

    The limits are a dict of the lesser entries that are settled, with their partners, and how many others
    may have other values than are told.
    """
    settled, many = limits
    entries = wrong_entries(kinds, told, options)
    if entries is None:
        return told
    unsettled = [entry for entry in entries if entry not in settled]
    settled = {entry: True for entry in settled}
    for entry in unsettled:
        # With this entry as it is, another one behind it in the list has to change.
        settled[entry] = True
        for pair in options[entry]:
            count = count_changed(told, entry, pair)
            if 0 < count <= many:
                near = with_changes(told, {entry: pair[0], partner(entry): pair[1]})
                found = search_near(kinds, near, options, (settled, many - count))
                if found is not None:
                    return found
    return None


def wrong_entries(kinds, told, options):
    """Lesser entries of which one must have other values, or its partner; None, if any number of changes agree."""
    for entry in options:
        if (told[entry], told[partner(entry)]) not in options[entry]:
            return [entry]
    three = first_turn(kinds, told)
    if three is None:
        return None
    return sorted(set([lesser_of(entry) for entry in asked_entries(kinds, told, three)]))


def failing_entries(table):
    """The lesser entries by which some two changes do not meet well."""
    return [entry for entry in lesser_entries(table.kinds) if not is_met(table, entry)]


def is_met(table, entry):
    """Whether all two changes with this entry meet well."""
    pair = (table.told[entry], table.told[partner(entry)])
    return all([meets_at(table.kinds, entry, pair, distance) for distance in distances(entry[2])])


def count_changed(told, entry, pair):
    """How many of an entry and its partner have not these values."""
    now = (told[entry], told[partner(entry)])
    return len([value for value, worth in zip(now, pair) if value != worth])


def changed(table, told):
    """The entries, ascending, with other values than those of a table, and these values."""
    return {entry: told[entry] for entry in table.told if told[entry] != table.told[entry]}


def with_changes(told, changes):
    """What is told, with other values for some entries."""
    return {entry: changes[entry] if entry in changes else told[entry] for entry in told}


def are_other_values(table, changes):
    """Whether these are values of entries of a table, each another one than it has."""
    return all([is_entry(table.kinds, entry) and is_value(table.kinds, entry, changes[entry])
                and changes[entry] != table.told[entry] for entry in changes])
