"""Texts that tell kinds, tables and runs: reading and writing them."""

from changetables.houses import HEARS, MOST_HANDS, SENDS, BadScript
from changetables.kinds import Kinds, check_kinds, is_kind, is_name, needs_letter
from changetables.playing import DOES
from changetables.scripts import SIGN, Script
from changetables.tables import FARTHEST, MOST_SHIFT, Table, check_table, has_letter_for, natural

MOST_KINDS = 4
MOST_WIDTH = 2


def read_kinds(text):
    """The Kinds that a text tells."""
    script = Script(text)
    kinds = read_kind_lines(script)
    script.close()
    return kinds


def read_table(text):
    """The Table that a text tells."""
    script = Script(text)
    kinds = read_kind_lines(script)
    told = {}
    while not script.is_over():
        read_entry(script.next_line(), kinds, told)
    others = natural(kinds).told
    return Table(kinds, {entry: told[entry] if entry in told else others[entry] for entry in others})


def read_run(kinds, text):
    """The text, the number of hands and the list of steps that a text tells."""
    check_kinds(kinds)
    script = Script(text)
    letters = read_text(script.next_line())
    hands = read_hands(script.next_line())
    steps = []
    while not script.is_over():
        steps.append(read_step(script.next_line(), kinds, hands))
    return letters, hands, steps


def write_kinds(kinds):
    """A text that tells the kinds."""
    check_kinds(kinds)
    return "".join([kind_line(name, kinds[name]) for name in kinds.names()])


def write_table(table):
    """A text that tells the table: its kinds, and the entries that have other values than those of natural."""
    check_table(table)
    others = natural(table.kinds).told
    lines = [entry_line(entry, table.told[entry]) for entry in others if table.told[entry] != others[entry]]
    return write_kinds(table.kinds) + "".join(lines)


def write_run(text, hands, steps):
    """A text that tells a text, a number of hands and steps."""
    letters = " ".join(["text", *[str(letter) for letter in text]])
    return "".join([f"{letters}\nhands {hands}\n", *[step_line(step) for step in steps]])


def read_kind_lines(script):
    """The Kinds that the next lines tell, of which there must be one."""
    told = {}
    read_kind(script.next_line(), told)
    while script.next_begins("kind"):
        read_kind(script.next_line(), told)
    return Kinds(told)


def read_kind(line, told):
    """Read a line of a kind, and tell it."""
    if len(told) == MOST_KINDS:
        raise BadScript(line.number, line.next_column())
    line.take(["kind"])
    name = line.next_thing()
    if not is_name(name) or name in told:
        raise BadScript(line.number, line.next_column())
    line.take([name])
    line.take([SIGN])
    width = line.take(list(range(MOST_WIDTH + 1)))
    column = line.next_column()
    kind = (width, read_row(line, width))
    if not is_kind(kind) or kind in list(told.values()):
        raise BadScript(line.number, column)
    told[name] = kind


def read_row(line, width):
    """The row that the rest of a line tells."""
    row = ()
    while not line.is_over():
        row = (*row, line.take([part for part in list(range(width)) + ["new"] if part not in row]))
    return row


def read_entry(line, kinds, told):
    """Read a line of an entry, and tell it."""
    column = line.next_column()
    one = line.take(kinds.names())
    other = line.take(kinds.names())
    line.take(["at"])
    gap = line.take(list(range(-FARTHEST, FARTHEST + 1)))
    entry = (one, other, gap, line.take(["less", "not"]) == "less")
    if entry in told:
        raise BadScript(line.number, column)
    line.take([SIGN])
    told[entry] = read_value(line, kinds, entry)
    line.close()


def read_value(line, kinds, entry):
    """The value of an entry that is told next."""
    name = line.take(["none", *[each for each in kinds.names() if has_letter_for(kinds, entry, each)]])
    if name == "none":
        return None
    return (name, line.take(list(range(-MOST_SHIFT, MOST_SHIFT + 1))))


def read_text(line):
    """The text that a line tells."""
    line.take(["text"])
    letters = {}
    while not line.is_over():
        letters[line.take_number(letters)] = True
    return tuple(letters)


def read_hands(line):
    """The number of hands that a line tells."""
    line.take(["hands"])
    hands = line.take(list(range(1, MOST_HANDS + 1)))
    line.close()
    return hands


def read_step(line, kinds, hands):
    """The step that a line tells."""
    hand = line.take(list(range(hands)))
    word = line.take([DOES, SENDS, HEARS])
    told = read_change(line, kinds, hand) if word == DOES else hand
    line.close()
    return (word, told)


def read_change(line, kinds, hand):
    """The change of a hand that is told next."""
    name = line.take(kinds.names())
    line.take(["at"])
    place = line.take_number({})
    if not needs_letter(kinds, name):
        return (name, place, None, hand)
    line.take(["with"])
    return (name, place, line.take_number({}), hand)


def kind_line(name, kind):
    """The line of a kind."""
    width, row = kind
    return " ".join([f"kind {name}:", str(width), *[str(part) for part in row]]) + "\n"


def entry_line(entry, value):
    """The line of an entry."""
    one, other, gap, less = entry
    word = "less" if less else "not"
    told = "none" if value is None else f"{value[0]} {value[1]}"
    return f"{one} {other} at {gap} {word}: {told}\n"


def step_line(step):
    """What stands in the line of a step."""
    word, told = step
    if word != DOES:
        return f"{told} {word}\n"
    name, place, letter, hand = told
    with_letter = "" if letter is None else f" with {letter}"
    return f"{hand} {word} {name} at {place}{with_letter}\n"
