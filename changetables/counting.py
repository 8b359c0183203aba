"""How many tables do, and which ones; which kinds go together."""

from changetables.anyhands import is_two_or_three
from changetables.errors import BadKinds, BadNumber
from changetables.fillings import check_part, judge_filling
from changetables.kinds import Kinds, check_kinds, is_whole
from changetables.meeting import choices, good_pairs
from changetables.tables import Table, all_entries, check_table, partner
from changetables.triples import first_turn

MOST_TABLES = 100
# Of this many kinds, at most, it is asked whether they go together for any number of hands.
MOST_NAMES = 2


def mirrored(table):
    """The table with the values of each entry and of that with the other boolean exchanged."""
    check_table(table)
    return Table(table.kinds, {(one, other, gap, less): table.told[one, other, gap, not less]
                               for one, other, gap, less in table.told})


def tables_two(kinds, part, most):
    """The first tables, at most so many, that have the values of a part and let all two changes meet well."""
    check_part(kinds, part)
    if not (is_whole(most) and 1 <= most <= MOST_TABLES):
        raise BadNumber("at most 1 to 100 tables can be asked for")
    return [Table(kinds, told) for told in first_fillings(kinds, choices(kinds, part), most)]


def count_any(kinds, part):
    """How many tables have the values of a part and let any number of changes agree."""
    check_part(kinds, part)
    return len(agreeing(kinds, part))


def tables_any(kinds, part):
    """The tables that have the values of a part and let any number of changes agree."""
    check_part(kinds, part)
    return [Table(kinds, told) for told in agreeing(kinds, part)]


def together(kinds, many):
    """The names that go together: for 2 the greatest tuples of them, for 3 all single ones and pairs."""
    check_kinds(kinds)
    if not is_two_or_three(many):
        raise BadNumber("two hands are asked for by 2, any number by 3")
    names = kinds.names()
    if many == 3:
        return [group for group in groups_of(names) if len(group) <= MOST_NAMES and go_together(kinds, group, 3)]
    groups = [group for group in groups_of(names) if go_together(kinds, group, 2)]
    return [group for group in groups if not can_grow(groups, names, group)]


def needs_hands(kinds, name):
    """Whether no table for this kind alone lets all two changes meet well and is the same as its mirrored one."""
    check_kinds(kinds)
    if name not in kinds:
        raise BadKinds(name)
    alone = Kinds({name: kinds[name]})
    for one, other, gap, less in all_entries(alone):
        pairs = good_pairs(alone, (one, other, gap, less))
        # The partner has the gap turned over: only for the gap 0 it is the entry with the other boolean.
        if pairs == [] or (gap == 0 and [value for value, worth in pairs if value == worth] == []):
            return True
    return False


def agreeing(kinds, part):
    """What the tables tell that have the values of a part and let any number of changes agree."""
    fillings = first_fillings(kinds, choices(kinds, part), None)
    return [told for told in fillings if first_turn(kinds, told) is None]


def first_fillings(kinds, options, most):
    """What the first tables tell that have pairs of the options, at most so many, all of them for None."""
    entries = all_entries(kinds)
    numbers = {entry: at for at, entry in enumerate(entries)}
    if [entry for entry in options if options[entry] == []] != []:
        return []
    # Whatever stands in a row so far, some pair goes on with it: so no more rows than asked are ever needed.
    rows = [()]
    for entry in entries:
        rows = [(*row, value) for row in rows for value in next_values(options, entry, row, numbers)][:most]
    return [{entry: value for entry, value in zip(entries, row)} for row in rows]


def next_values(options, entry, row, numbers):
    """The values of an entry behind a row of those of the entries ahead of it, None ahead of pairs."""
    if entry in options:
        # Each value stands in one pair: what it makes can be made by one value of the partner only.
        return [value for value, _ in options[entry]]
    lesser = partner(entry)
    return [worth for value, worth in options[lesser] if value == row[numbers[lesser]]]


def groups_of(names):
    """All tuples of some of the names, ascending, in this order."""
    groups = []
    for name in names[::-1]:
        groups = [(name,), *[(name, *group) for group in groups], *groups]
    return groups


def go_together(kinds, group, many):
    """Whether there is a Filled for just the kinds with these names, for 2 or 3."""
    return bool(judge_filling(Kinds({name: kinds[name] for name in group}), {}, many))


def can_grow(groups, names, group):
    """Whether one of the groups is this one with another name put in."""
    return [name for name in names if name not in group and tuple(sorted([*group, name])) in groups] != []
