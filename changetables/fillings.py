"""Fillings: whether some table for kinds does, and if none does, a tree that bars all."""

from changetables.anyhands import is_two_or_three, lets_agree
from changetables.barring import any_leaf, bars, entry_tree
from changetables.errors import BadNumber, BadTable
from changetables.kinds import check_kinds
from changetables.meeting import choices, good_pairs, lesser_of
from changetables.tables import Table, check_table, is_entry, is_value, partner
from changetables.triples import all_turns, asked_entries

LOOKED_AT = 40


class Filled:
    """A table that does."""

    def __init__(self, table):
        check_table(table)
        self.table = Table(table.kinds, table.told)

    def __eq__(self, other):
        return isinstance(other, Filled) and self.table == other.table

    def __bool__(self):
        return True

    def shows(self, kinds, part, many):
        """Whether it is a table for the kinds, with the values of the part, that does."""
        check_asked(kinds, part, many)
        return is_full(kinds, self.table) and has_part(self.table, part) and lets_agree(self.table, many)


class Barred:
    """A tree that bars all tables."""

    def __init__(self, tree):
        self.tree = tree

    def __eq__(self, other):
        return isinstance(other, Barred) and self.tree == other.tree

    def __bool__(self):
        return False

    def shows(self, kinds, part, many):
        """Whether it bars all tables for the kinds that have the values of the part."""
        check_asked(kinds, part, many)
        return bars(kinds, {entry: part[entry] for entry in part}, self.tree, many)


def good_values(kinds, entry):
    """The pairs of a value of an entry and one of its partner by which all two changes meet well, ascending."""
    check_kinds(kinds)
    if not is_entry(kinds, entry):
        raise BadTable(entry)
    return good_pairs(kinds, entry)


def count_two(kinds, part):
    """How many tables have the values of a part and let all two changes meet well."""
    check_part(kinds, part)
    many = 1
    for pairs in choices(kinds, part).values():
        many = many * len(pairs)
    return many


def judge_filling(kinds, part, many):
    """A Filled, if some table has the values of a part and does, otherwise a Barred."""
    check_asked(kinds, part, many)
    options = choices(kinds, part)
    for entry in options:
        if options[entry] == []:
            return Barred(entry_tree(kinds, part, entry, {}))
    if many == 2:
        return Filled(Table(kinds, first_told({}, options)))
    told, tree = search(kinds, {entry: part[entry] for entry in part}, options)
    return Barred(tree) if told is None else Filled(Table(kinds, told))


def search(kinds, told, options):
    """The values of a table by which any number of changes agree, and None; None and a tree, if there is none."""
    guess = first_told(told, options)
    turn = easiest_turn(kinds, told, options, guess)
    if turn is None:
        return guess, None
    three, entries = turn
    if entries == []:
        return None, any_leaf(three)
    entry = min([(len(options[each]), each) for each in entries])[1]
    trees = {}
    for pair in options[entry]:
        found, tree = search(kinds, with_pair(told, entry, pair), options)
        if found is not None:
            return found, None
        trees[pair] = tree
    return None, entry_tree(kinds, told, entry, trees)


def easiest_turn(kinds, told, options, guess):
    """Three changes that do not turn well by a guess, and the entries to be told for that; None, if all do.

    Those for which the fewest values are to be gone through keep the tree small; the first ones are enough
    to choose from.
    """
    best, least = None, None
    for at, three in enumerate(all_turns(kinds, guess)):
        if at == LOOKED_AT:
            break
        entries = sorted(set([lesser_of(entry) for entry in asked_entries(kinds, guess, three) if entry not in told]))
        if entries == []:
            return three, entries
        effort = (ways_to_tell(options, entries), len(entries))
        if least is None or effort < least:
            best, least = (three, entries), effort
    return best


def ways_to_tell(options, entries):
    """In how many ways good pairs of values can be told for entries and their partners."""
    many = 1
    for entry in entries:
        many = many * len(options[entry])
    return many


def first_told(told, options):
    """What is told, and the first good pair of values for all other entries."""
    guess = {}
    for entry in options:
        guess[entry], guess[partner(entry)] = options[entry][0]
    for entry in told:
        guess[entry] = told[entry]
    return guess


def with_pair(told, entry, pair):
    """What is told, and a pair of values for an entry and its partner."""
    more = {each: told[each] for each in told}
    more[entry], more[partner(entry)] = pair
    return more


def is_full(kinds, table):
    """Whether this is a table for the kinds, with values for all entries."""
    if not (isinstance(table, Table) and table.kinds == kinds):
        return False
    try:
        Table(kinds, table.told)
    except BadTable:
        return False
    return True


def has_part(table, part):
    """Whether a table has the values of a part."""
    return all([table.told[entry] == part[entry] for entry in part])


def check_asked(kinds, part, many):
    """Raise an error unless these are kinds, a part for them, and 2 or 3."""
    check_part(kinds, part)
    if not is_two_or_three(many):
        raise BadNumber("two hands are asked for by 2, any number by 3")


def check_part(kinds, part):
    """Raise an error unless these are kinds and a part for them."""
    check_kinds(kinds)
    if not isinstance(part, dict):
        raise BadTable(None)
    for entry in part:
        if not (is_entry(kinds, entry) and is_value(kinds, entry, part[entry])):
            raise BadTable(entry)
