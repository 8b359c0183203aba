"""Two hands: whether a table lets all two changes meet well, for all texts."""

from changetables.atonce import are_at_once, check_at_once
from changetables.changes import is_text
from changetables.kinds import is_whole
from changetables.meeting import LONGEST, changes_at, common_end, distances, shortest_meeting
from changetables.tables import all_entries, check_table

ENDS_LETTERS = 20
ENDS_AHEAD = 8


class Meets:
    """All two changes meet well: the ends tell what both ways make of a text."""

    def __init__(self, ends):
        self.ends = {triple: ends[triple] for triple in ends}

    def __eq__(self, other):
        return isinstance(other, Meets) and self.ends == other.ends

    def __bool__(self):
        return True

    def shows(self, table):
        """Whether the table lets all two changes meet well, and these are the ends."""
        check_table(table)
        return first_split(table) is None and are_ends(self.ends, all_ends(table))


class Splits:
    """Two changes that can be done to a text, and do not meet well."""

    def __init__(self, text, one, other):
        self.text = text
        self.one = one
        self.other = other

    def __eq__(self, other):
        return (isinstance(other, Splits) and self.text == other.text
                and self.one == other.one and self.other == other.other)

    def __bool__(self):
        return False

    def shows(self, table):
        """Whether these are two such changes, and the first one's hand is less."""
        check_table(table)
        return (is_text(self.text) and are_at_once(table.kinds, self.text, (self.one, self.other))
                and self.one[3] < self.other[3]
                and common_end(table.kinds, table.told, self.text, self.one, self.other) is None)


def judge_two(table):
    """A Meets, if all two changes meet well for all texts, otherwise a Splits with a shortest text."""
    check_table(table)
    split = first_split(table)
    return Meets(all_ends(table)) if split is None else split


def meet_well(table, text, one, other):
    """Whether two changes of different hands meet well."""
    check_table(table)
    check_at_once(table.kinds, text, (one, other))
    return common_end(table.kinds, table.told, text, one, other) is not None


def first_split(table):
    """The Splits with a shortest text; None, if all two changes meet well."""
    for _, entry, distance in all_meetings(table.kinds):
        text, one, other = shortest_meeting(table.kinds, entry, distance)
        if common_end(table.kinds, table.told, text, one, other) is None:
            return Splits(text, one, other)
    return None


def all_meetings(kinds):
    """The entries of which the first hand is less, with their distances, those of the shortest texts first."""
    return sorted([(needed_letters(kinds, entry, distance), entry, distance)
                   for entry in all_entries(kinds) if entry[3] for distance in distances(entry[2])])


def needed_letters(kinds, entry, distance):
    """How many letters the shortest text has to which two changes at a distance can be done."""
    return max(kinds[entry[0]][0] + max(0, distance), kinds[entry[1]][0] + max(0, -distance))


def all_ends(table):
    """What both ways make of one text, for all kinds and distances."""
    names = table.kinds.names()
    return {(one, other, distance): end_at(table, (one, other), distance)
            for one in names for other in names for distance in range(-LONGEST, LONGEST + 1)}


def end_at(table, names, distance):
    """What both ways of two changes at a distance make of the text of the ends."""
    one, other = changes_at(table.kinds, names, distance, True, ENDS_AHEAD)
    return common_end(table.kinds, table.told, tuple(range(ENDS_LETTERS)), one, other)


def are_ends(ends, wanted):
    """Whether ends are those that are wanted, in their order, and all numbers in them are integers."""
    return (isinstance(ends, dict) and list(ends.items()) == list(wanted.items())
            and all([is_whole(triple[2]) for triple in ends])
            and all([is_whole(letter) for end in ends.values() for letter in end]))
