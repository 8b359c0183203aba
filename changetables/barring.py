"""Trees that bar all tables: their leaves are changes that do not go together by what is told on the way."""

from changetables.atonce import FIRST_LETTER, are_at_once, have_own_hands
from changetables.changes import is_change
from changetables.kinds import is_whole
from changetables.meeting import common_end, distances, pairs_at, shortest_meeting
from changetables.tables import entry_of, is_entry, is_value, partner, values_of
from changetables.triples import turn_well

LONGEST_TEXT = 20
LOWEST_PLACE = 20
HIGHEST_PLACE = 60


def entry_tree(kinds, told, entry, trees):
    """The tree that tells an entry and its partner, with these trees below their good pairs of values."""
    leaves = two_leaves(kinds, entry)
    other = partner(entry)
    worths = open_values(kinds, told, other)
    below = [(value, node(told, other, [(worth, tree_below(trees, leaves, (value, worth))) for worth in worths]))
             for value in open_values(kinds, told, entry)]
    return node(told, entry, below)


def node(told, entry, branches):
    """The tree that tells an entry; what stands below it alone, if the entry is told already."""
    return branches[0][1] if entry in told else ("entry", entry, tuple(branches))


def open_values(kinds, told, entry):
    """The values that an entry can still have."""
    return [told[entry]] if entry in told else values_of(kinds, entry)


def tree_below(trees, leaves, pair):
    """The tree of a good pair of values; of others the first leaf by which they do not meet well."""
    if pair in trees:
        return trees[pair]
    return [leaf for leaf, pairs in leaves if pair not in pairs][0]


def two_leaves(kinds, entry):
    """A leaf for each distance of two changes with this entry, and the pairs of values that it does not bar."""
    leaves = []
    for distance in distances(entry[2]):
        text, one, other = shortest_meeting(kinds, entry, distance)
        leaves.append((("two", len(text), (one, other)), pairs_at(kinds, entry, distance)))
    return leaves


def any_leaf(three):
    """The leaf of three changes that do not turn well."""
    return ("any", tuple([(name, LOWEST_PLACE + place, letter, hand) for name, place, letter, hand in three]))


def bars(kinds, told, tree, many):
    """Whether a tree bars all tables with what is told, which is put in order again if it does."""
    if not isinstance(tree, tuple) or tree == ():
        return False
    if tree[0] == "two" and len(tree) == 3:
        return two_bar(kinds, told, tree[1], tree[2])
    if tree[0] == "any" and len(tree) == 2 and many == 3:
        return three_bar(kinds, told, tree[1])
    if tree[0] == "entry" and len(tree) == 3:
        return entry_bars(kinds, told, tree, many)
    return False


def entry_bars(kinds, told, tree, many):
    """Whether a tree that tells an entry bars all tables with what is told."""
    _, entry, branches = tree
    if not is_entry(kinds, entry) or entry in told or not are_branches(kinds, entry, branches):
        return False
    for value, below in branches:
        told[entry] = value
        if not bars(kinds, told, below, many):
            return False
    del told[entry]
    return True


def are_branches(kinds, entry, branches):
    """Whether these are pairs of a value and something else, with all values of an entry, each once."""
    if not isinstance(branches, tuple):
        return False
    values = [branch[0] for branch in branches if isinstance(branch, tuple) and len(branch) == 2]
    return (len(values) == len(branches) == len(values_of(kinds, entry))
            and all([is_value(kinds, entry, value) for value in values])
            and len(set(values)) == len(values))


def two_bar(kinds, told, length, changes):
    """Whether two changes can be done to the text of a length, and do not meet well by what is told."""
    if not (is_whole(length) and 0 <= length <= LONGEST_TEXT and is_tuple_of(2, changes)):
        return False
    text = tuple(range(length))
    if not (are_at_once(kinds, text, changes) and have_late_letters(changes)):
        return False
    one, other = changes
    return (entry_of(one, other) in told and entry_of(other, one) in told
            and common_end(kinds, told, text, one, other) is None)


def three_bar(kinds, told, changes):
    """Whether three changes do not turn well by what is told."""
    if not (is_tuple_of(3, changes) and all([is_change(kinds, change) for change in changes])):
        return False
    if not (have_own_hands(changes) and all([LOWEST_PLACE <= change[1] <= HIGHEST_PLACE for change in changes])):
        return False
    try:
        return not turn_well(kinds, told, changes)
    except KeyError:
        # An entry is asked that is not told.
        return False


def is_tuple_of(many, changes):
    """Whether this is a tuple of so many."""
    return isinstance(changes, tuple) and len(changes) == many


def have_late_letters(changes):
    """Whether all letters of changes are from the first one on that texts of leaves do not have."""
    return all([change[2] is None or change[2] >= FIRST_LETTER for change in changes])
