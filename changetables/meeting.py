"""Two changes of different hands: where they meet, and the values by which they meet well."""

from changetables.atonce import change_at, shortest_text
from changetables.changes import can_do, text_behind
from changetables.tables import FARTHEST, all_entries, entry_of, partner, values_of, with_value

LONGEST = 7


def lesser_entries(kinds):
    """The entries that are less than their partners, ascending: one for each pair of partners."""
    return [entry for entry in all_entries(kinds) if entry < partner(entry)]


def lesser_of(entry):
    """The lesser one of an entry and its partner."""
    return min(entry, partner(entry))


def distances(gap):
    """All distances of changes that have this gap."""
    if gap == FARTHEST:
        return list(range(FARTHEST, LONGEST + 1))
    if gap == -FARTHEST:
        return list(range(-LONGEST, -FARTHEST + 1))
    return [gap]


def changes_at(kinds, names, distance, less, ahead):
    """Two changes at a distance, the lesser place of which is as told, the first one's hand less or not."""
    one, other = names
    hand = 0 if less else 1
    return (change_at(kinds, one, ahead + max(0, distance), hand),
            change_at(kinds, other, ahead + max(0, -distance), 1 - hand))


def shortest_meeting(kinds, entry, distance):
    """The shortest text with two changes that have this entry and this distance."""
    one, other, _, less = entry
    changes = changes_at(kinds, (one, other), distance, less, 0)
    return shortest_text(kinds, changes), *changes


def common_end(kinds, told, text, one, other):
    """The text that both ways make by the values told for entries; None, if the two do not meet well."""
    end = end_by(kinds, text_behind(kinds, text, other), one, told[entry_of(one, other)])
    again = end_by(kinds, text_behind(kinds, text, one), other, told[entry_of(other, one)])
    return end if end == again else None


def end_by(kinds, text, change, value):
    """The text behind the form that a value gives a change; None, if this form cannot be done."""
    form = with_value(kinds, change, value)
    if form is None:
        return text
    return text_behind(kinds, text, form) if can_do(kinds, text, form) else None


def good_pairs(kinds, entry):
    """The pairs of a value of an entry and one of its partner by which all two changes meet well, ascending."""
    first, *further = distances(entry[2])
    return [pair for pair in pairs_at(kinds, entry, first)
            if all([meets_at(kinds, entry, pair, distance) for distance in further])]


def pairs_at(kinds, entry, distance):
    """The pairs of values by which two changes at this distance meet well, ascending."""
    text, one, other = shortest_meeting(kinds, entry, distance)
    after = text_behind(kinds, text, one)
    values_by_end = {}
    for value in values_of(kinds, partner(entry)):
        values_by_end.setdefault(end_by(kinds, after, other, value), []).append(value)
    # Under None are the values by which the form cannot be done.
    values_by_end[None] = []
    after = text_behind(kinds, text, other)
    return [(value, worth) for value in values_of(kinds, entry)
            for worth in values_by_end.get(end_by(kinds, after, one, value), [])]


def meets_at(kinds, entry, pair, distance):
    """Whether two changes at this distance meet well by these values of their entry and its partner."""
    text, one, other = shortest_meeting(kinds, entry, distance)
    return common_end(kinds, {entry: pair[0], partner(entry): pair[1]}, text, one, other) is not None


def choices(kinds, part):
    """For each lesser entry the pairs of values, as in a part, by which all two changes meet well."""
    found = {}
    for entry in lesser_entries(kinds):
        one, other, gap, less = entry
        # Which hand is less tells the forms, but not what they do: the good pairs are the same.
        again = (one, other, gap, False)
        found[entry] = list(found[again]) if less and again in found else good_pairs(kinds, entry)
    return {entry: [pair for pair in found[entry] if is_told_so(part, entry, pair)] for entry in found}


def is_told_so(part, entry, pair):
    """Whether a part does not tell other values of an entry and its partner."""
    other = partner(entry)
    return (entry not in part or part[entry] == pair[0]) and (other not in part or part[other] == pair[1])
