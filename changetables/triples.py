"""Three changes: whether the last one has the same form, whichever of the two others it is taken behind first.

So that many of them are quickly gone through, a change is told by one number here: the number of its kind
times STEP, and its place. Behind the kinds stands one more, of the changes that are dropped: such a change
moves nothing, and stays dropped behind any other.
"""

from changetables.atonce import change_at
from changetables.tables import entry_of, form_by, gap_of

# Places this far apart tell for all.
SPAN = 8
# A form is at most 4 places away from its change, so that none comes near to the ends of a STEP.
MIDDLE = 16
STEP = 32

HANDS = ((0, 1, 2), (0, 2, 1), (1, 0, 2), (1, 2, 0), (2, 0, 1), (2, 1, 0))


def first_turn(kinds, told):
    """The first three changes that do not turn well; None, if all do."""
    for three in all_turns(kinds, told):
        return three
    return None


def all_turns(kinds, told):
    """All three changes that do not turn well, one by one."""
    moves = all_moves(kinds, told)
    for firsts, hands in all_firsts(len(kinds)):
        for last in turned_lasts(moves, len(kinds), firsts, hands):
            yield three_changes(kinds, (*firsts, last), hands)


def all_firsts(many):
    """The numbers of two changes with hands for them and for a third one, those close to each other first."""
    return [((one * STEP + MIDDLE, other * STEP + MIDDLE + distance), hands) for distance in range(SPAN + 1)
            for one in range(many) for other in range(many) for hands in HANDS]


def turned_lasts(moves, many, firsts, hands):
    """The numbers of the changes that have not the same form behind both of the first ones either way."""
    one, other = firsts
    less, other_less = hands[2] < hands[0], hands[2] < hands[1]
    one_form = all_behind(moves, [one], other, hands[0] < hands[1])[0]
    other_form = all_behind(moves, [other], one, hands[1] < hands[0])[0]
    lasts = [kind * STEP + place for kind in range(many) for place in range(other % STEP - SPAN, MIDDLE + SPAN + 1)]
    way = all_behind(moves, all_behind(moves, lasts, one, less), other_form, other_less)
    back = all_behind(moves, all_behind(moves, lasts, other, other_less), one_form, less)
    # All numbers from the last STEP on are of dropped changes, and alike.
    return [last for last, form, again in zip(lasts, way, back)
            if form != again and min(form, again) < many * STEP]


def all_behind(moves, numbers, ahead, less):
    """The numbers of changes' forms behind another change; less tells whether their hand is less."""
    kind, place = divmod(ahead, STEP)
    forms, on = moves[kind, less], place - MIDDLE
    return [forms[number - on] + on for number in numbers]


def all_moves(kinds, told):
    """For the number of a kind and a boolean, the numbers of the forms of all changes behind it at MIDDLE."""
    names = kinds.names()
    end = len(names) * STEP
    moves = {(len(names), less): list(range(end + STEP)) for less in (False, True)}
    for at, ahead in enumerate(names):
        for less in (False, True):
            forms = [number_behind(names, place, told[(name, ahead, gap_of(place - MIDDLE), less)])
                     for name in names for place in range(STEP)]
            moves[at, less] = forms + list(range(end, end + STEP))
    return moves


def number_behind(names, place, value):
    """The number of the form that a value gives a change."""
    if value is None:
        return len(names) * STEP + MIDDLE
    return names.index(value[0]) * STEP + place + value[1]


def three_changes(kinds, numbers, hands):
    """The changes with these numbers, at places from 0 on."""
    names = kinds.names()
    places = [number % STEP for number in numbers]
    return tuple([change_at(kinds, names[number // STEP], place - min(places), hand)
                  for number, place, hand in zip(numbers, places, hands)])


def turn_well(kinds, told, three):
    """Whether the last one of three changes has the same form either way, by the values told for entries."""
    form, again = [form_by(kinds, told, one, other) for one, other in steps_of(kinds, told, three)[-2:]]
    return form == again


def asked_entries(kinds, told, three):
    """The entries that are asked when the last one of three changes is taken behind the others either way."""
    return [entry_of(one, other) for one, other in steps_of(kinds, told, three)
            if one is not None and other is not None]


def steps_of(kinds, told, three):
    """The pairs of which the first one is taken behind the second one, the last step of either way at the end."""
    first, second, last = three
    steps = [(last, first), (second, first), (last, second), (first, second)]
    last_first, second_first, last_second, first_second = [form_by(kinds, told, one, other) for one, other in steps]
    return [*steps, (last_first, second_first), (last_second, first_second)]
