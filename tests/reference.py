"""What the document says of changes and tables, written out once more, slowly, for the tests to compare with."""

from itertools import permutations, product

from changetables.kinds import Kinds
from changetables.tables import Table, natural

# All kinds that there are, by names for the tests.
ROWS = {
    "put": (0, ("new",)), "cut": (1, ()), "set": (1, ("new",)), "drop": (2, ()), "join": (2, ("new",)),
    "swap": (2, (1, 0)), "pull": (2, ("new", 0)), "move": (2, (1, "new")), "aa": (2, ("new", 1, 0)),
    "bb": (2, (1, "new", 0)), "cc": (2, (1, 0, "new")),
}

# The sets of up to two kinds for which some table lets all two changes meet well; ALWAYS: any number agree, too.
SOMETIMES = ["put", "cut", "set", "swap", "put cut", "put set", "cut set", "cut drop", "cut join", "cut swap",
             "set join", "set swap"]
ALWAYS = ["put", "cut", "set", "put set", "cut set", "cut drop"]


def raised(error, call, *arguments):
    """The error that a call raises."""
    try:
        found = call(*arguments)
    except error as caught:
        return caught
    raise AssertionError(f"{error.__name__} was not raised, but {found!r} returned")


def kinds_of(words):
    """The Kinds with these names."""
    return Kinds({name: ROWS[name] for name in words.split()})


def entries_of(kinds):
    """All entries, ascending."""
    return [(one, other, gap, less) for one in sorted(kinds.told) for other in sorted(kinds.told)
            for gap in (-3, -2, -1, 0, 1, 2, 3) for less in (False, True)]


def turned_entry(entry):
    """The partner of an entry."""
    one, other, gap, less = entry
    return (other, one, -gap, not less)


def values_for(kinds, entry):
    """All values of an entry, None first."""
    free = "new" in kinds.told[entry[0]][1]
    names = [name for name in sorted(kinds.told) if free or "new" not in kinds.told[name][1]]
    return [None] + [(name, shift) for name in names for shift in (-2, -1, 0, 1, 2)]


def letter_of(kinds, name, letter):
    """The letter, None if the kind needs none."""
    return letter if "new" in kinds.told[name][1] else None


def done_to(kinds, text, change):
    """The text behind a change; None, if it cannot be done."""
    name, place, letter, _ = change
    width, row = kinds.told[name]
    if place < 0 or place + width > len(text) or letter in text:
        return None
    return text[:place] + tuple(letter if part == "new" else text[place + part] for part in row) + text[place + width:]


def form_of(kinds, told, one, other):
    """The form of a change behind another one."""
    if one is None or other is None:
        return one
    gap = one[1] - other[1]
    gap = 3 if gap > 3 else -3 if gap < -3 else gap
    value = told[one[0], other[0], gap, one[3] < other[3]]
    if value is None:
        return None
    return (value[0], one[1] + value[1], letter_of(kinds, value[0], one[2]), one[3])


def end_in(kinds, told, text, changes, order):
    """The text behind changes in an order, each taken behind all ahead of it; None, if one cannot be done."""
    ahead = []
    for number in order:
        form = changes[number]
        for early in ahead:
            form = form_of(kinds, told, form, early)
        ahead.append(form)
        if form is not None:
            text = done_to(kinds, text, form)
            if text is None:
                return None
    return text


def end_of_both(kinds, told, text, one, other):
    """The text that both ways of two changes make; None, if they do not meet well."""
    end, again = [end_in(kinds, told, text, (one, other), order) for order in ((0, 1), (1, 0))]
    return end if end == again else None


def changes_to(kinds, length, letter, hand):
    """All changes that can be done to a text of a length, by one hand and with one letter."""
    return [(name, place, letter_of(kinds, name, letter), hand)
            for name in sorted(kinds.told) for place in range(length - kinds.told[name][0] + 1)]


def all_twos(kinds, length):
    """All two changes to a text of a length, the first one's hand less."""
    return product(changes_to(kinds, length, 50, 3), changes_to(kinds, length, 60, 4))


def shortest_split(kinds, told, longest):
    """The length of the shortest text with two changes that do not meet well; None, if none is up to the longest."""
    for length in range(longest + 1):
        for one, other in all_twos(kinds, length):
            if end_of_both(kinds, told, tuple(range(length)), one, other) is None:
                return length
    return None


def failing_pairs(kinds, told, longest):
    """The pairs of partners by which some two changes to texts up to a length do not meet well, ascending."""
    found = set()
    for one, other in all_twos(kinds, longest):
        low = min(one[1], other[1])
        moved = [(name, place - low, letter, hand) for name, place, letter, hand in (one, other)]
        length = max(place + kinds.told[name][0] for name, place, _, _ in moved)
        if end_of_both(kinds, told, tuple(range(length)), *moved) is None:
            gap = max(-3, min(3, one[1] - other[1]))
            entry = (one[0], other[0], gap, True)
            found.add(tuple(sorted((entry, turned_entry(entry)))))
    return sorted(found)


def turns_well(kinds, told, first, second, last):
    """Whether the last one of three changes has the same form either way."""
    way = form_of(kinds, told, form_of(kinds, told, last, first), form_of(kinds, told, second, first))
    back = form_of(kinds, told, form_of(kinds, told, last, second), form_of(kinds, told, first, second))
    return way == back


def some_turn(kinds, told, apart):
    """Whether some three changes, at places so far apart at most, do not turn well."""
    for names in product(sorted(kinds.told), repeat=3):
        for places in product(range(apart + 1), repeat=3):
            if min(places) == 0:
                for hands in permutations(range(3)):
                    three = [(name, place, letter_of(kinds, name, 70 + hand), hand)
                             for name, place, hand in zip(names, places, hands)]
                    if not turns_well(kinds, told, *three):
                        return True
    return False


def bent(random, kinds, many):
    """The natural table with other values, drawn, of so many entries, drawn."""
    told = dict(natural(kinds).told)
    for entry in random.sample(entries_of(kinds), many):
        told[entry] = random.choice([value for value in values_for(kinds, entry) if value != told[entry]])
    return Table(kinds, told)


def good_by_trying(kinds, entry):
    """The pairs of values of an entry and its partner by which all two changes meet well, by trying all."""
    one, other, gap, less = entry
    far = {3: range(3, 9), -3: range(-8, -2)}.get(gap, [gap])
    found = []
    for value in values_for(kinds, entry):
        for worth in values_for(kinds, turned_entry(entry)):
            told = {entry: value, turned_entry(entry): worth}
            if all(meets_by(kinds, told, (one, other), distance, less) for distance in far):
                found.append((value, worth))
    return found


def meets_by(kinds, told, names, distance, less):
    """Whether two changes at a distance meet well on the shortest text."""
    hands = (1, 2) if less else (2, 1)
    places = (max(0, distance), max(0, -distance))
    one, other = [(name, place, letter_of(kinds, name, 50 + hand), hand)
                  for name, place, hand in zip(names, places, hands)]
    length = max(place + kinds.told[name][0] for name, place in zip(names, places))
    return end_of_both(kinds, told, tuple(range(length)), one, other) is not None


def good_tables(random, kinds, many):
    """Tables, drawn, that let all two changes meet well."""
    pairs = {entry: good_by_trying(kinds, entry) for entry in entries_of(kinds) if entry[3]}
    found = []
    for _ in range(many):
        told = {}
        for entry in pairs:
            told[entry], told[turned_entry(entry)] = random.choice(pairs[entry])
        found.append(Table(kinds, told))
    return found
