"""Changes: point [3], and what point [1] says of them."""

import unittest
from itertools import permutations

from changetables.changes import done, done_all
from changetables.errors import BadChange, BadKinds, BadText, CannotDo
from changetables.kinds import Kinds
from reference import raised

KINDS = Kinds({"put": (0, ("new",)), "cut": (1, ()), "set": (1, ("new",)), "swap": (2, (1, 0))})
ROWS = {
    "put": (0, ("new",)), "cut": (1, ()), "set": (1, ("new",)), "drop": (2, ()), "join": (2, ("new",)),
    "swap": (2, (1, 0)), "pull": (2, ("new", 0)), "move": (2, (1, "new")), "aa": (2, ("new", 1, 0)),
    "bb": (2, (1, "new", 0)), "cc": (2, (1, 0, "new")),
}

NO_TEXTS = [None, [1, 2], [], "12", 1, {1: 2}, range(3), (1, "2"), (1, None), (1, 2.0), ((1,),), ([],),
            (True,), (False, 2), (2, 1, True), (1, 1), (1, 2, 1), (0, -1, 5, -1)]

NO_CHANGES = [
    0, "put", (), {}, ["put", 0, 9, 0], ("put", 0, 9), ("put", 0, 9, 0, 0), (("put", 0, 9, 0),),
    ("puts", 0, 9, 0), ("", 0, 9, 0), (None, 0, 9, 0), (0, 0, 9, 0), (["put"], 0, 9, 0),
    ("put", None, 9, 0), ("put", "0", 9, 0), ("put", 0.0, 9, 0), ("put", False, 9, 0), ("put", True, 9, 0),
    ("put", 0, None, 0), ("put", 0, "9", 0), ("put", 0, True, 0), ("put", 0, False, 0), ("set", 0, None, 0),
    ("cut", 0, 9, 0), ("cut", 0, 0, 0), ("cut", 0, False, 0), ("swap", 0, 9, 0), ("swap", 0, "", 0),
    ("put", 0, 9, -1), ("put", 0, 9, None), ("put", 0, 9, "0"), ("put", 0, 9, True), ("put", 0, 9, False),
    ("cut", 0, None, -1), ("cut", True, None, 0), ("cut", 0, None, False), ("swap", 0, None, 1.0),
]


def of_kind(name):
    """Kinds with just one kind, and the letter that its changes here have."""
    return Kinds({name: ROWS[name]}), 9 if "new" in ROWS[name][1] else None


class EachKind(unittest.TestCase):
    def check(self, text, place, expected):
        for name, behind in expected.items():
            kinds, letter = of_kind(name)
            with self.subTest(name=name):
                if behind is None:
                    error = raised(CannotDo, done, kinds, text, (name, place, letter, 0))
                    self.assertEqual(error.place, 0)
                else:
                    self.assertEqual(done(kinds, text, (name, place, letter, 0)), behind)

    def test_of_no_letters(self):
        self.check((), 0, {name: (9,) if name == "put" else None for name in ROWS})
        self.check((), 1, {name: None for name in ROWS})

    def test_of_one_letter(self):
        self.check((1,), 0, {"put": (9, 1), "cut": (), "set": (9,), "drop": None, "join": None, "swap": None,
                             "pull": None, "move": None, "aa": None, "bb": None, "cc": None})
        self.check((1,), 1, {name: (1, 9) if name == "put" else None for name in ROWS})
        self.check((1,), 2, {name: None for name in ROWS})

    def test_of_two_letters(self):
        self.check((1, 2), 0, {"put": (9, 1, 2), "cut": (2,), "set": (9, 2), "drop": (), "join": (9,),
                               "swap": (2, 1), "pull": (9, 1), "move": (2, 9), "aa": (9, 2, 1),
                               "bb": (2, 9, 1), "cc": (2, 1, 9)})

    def test_at_the_first_place(self):
        self.check((4, 5, 6, 7), 0, {
            "put": (9, 4, 5, 6, 7), "cut": (5, 6, 7), "set": (9, 5, 6, 7), "drop": (6, 7), "join": (9, 6, 7),
            "swap": (5, 4, 6, 7), "pull": (9, 4, 6, 7), "move": (5, 9, 6, 7), "aa": (9, 5, 4, 6, 7),
            "bb": (5, 9, 4, 6, 7), "cc": (5, 4, 9, 6, 7)})

    def test_in_the_middle(self):
        self.check((4, 5, 6, 7), 1, {
            "put": (4, 9, 5, 6, 7), "cut": (4, 6, 7), "set": (4, 9, 6, 7), "drop": (4, 7), "join": (4, 9, 7),
            "swap": (4, 6, 5, 7), "pull": (4, 9, 5, 7), "move": (4, 6, 9, 7), "aa": (4, 9, 6, 5, 7),
            "bb": (4, 6, 9, 5, 7), "cc": (4, 6, 5, 9, 7)})

    def test_at_the_last_places(self):
        self.check((4, 5, 6), 1, {
            "drop": (4,), "join": (4, 9), "swap": (4, 6, 5), "pull": (4, 9, 5), "move": (4, 6, 9),
            "aa": (4, 9, 6, 5), "bb": (4, 6, 9, 5), "cc": (4, 6, 5, 9)})
        self.check((4, 5, 6), 2, {name: {"put": (4, 5, 9, 6), "cut": (4, 5), "set": (4, 5, 9)}.get(name)
                                  for name in ROWS})
        self.check((4, 5, 6), 3, {name: (4, 5, 6, 9) if name == "put" else None for name in ROWS})

    def test_at_no_place_of_the_text(self):
        for place in (-1, -2, -3, -4, 4, 5, 100, -10 ** 30, 10 ** 30):
            with self.subTest(place=place):
                self.check((4, 5, 6), place, {name: None for name in ROWS})

    def test_a_letter_that_is_there_already(self):
        for name in ROWS:
            kinds, letter = of_kind(name)
            for text in permutations((4, 5, 9)):
                for place in range(2):
                    with self.subTest(name=name, text=text, place=place):
                        if letter is None:
                            done(kinds, text, (name, place, letter, 0))
                        else:
                            error = raised(CannotDo, done, kinds, text, (name, place, letter, 0))
                            self.assertEqual(error.place, 0)

    def test_changes_that_make_the_same_text_are_the_same(self):
        for text in ((), (1,), (1, 2), (1, 2, 3), (1, 2, 3, 4)):
            made = {}
            for name in ROWS:
                kinds, letter = of_kind(name)
                for place in range(-1, 7):
                    try:
                        behind = done(kinds, text, (name, place, letter, 0))
                    except CannotDo:
                        continue
                    self.assertNotIn(behind, made)
                    made[behind] = (name, place)


class Done(unittest.TestCase):
    def test_none_does_nothing(self):
        for text in ((), (4,), (4, 5, 6)):
            self.assertEqual(done(KINDS, text, None), text)

    def test_letters_and_hands_of_any_number(self):
        self.assertEqual(done(KINDS, (0, -1), ("put", 1, -7, 10 ** 20)), (0, -7, -1))
        self.assertEqual(done(KINDS, (5,), ("set", 0, 0, 3)), (0,))
        self.assertEqual(done(KINDS, (10 ** 30,), ("put", 1, -10 ** 30, 0)), (10 ** 30, -10 ** 30))

    def test_a_tuple_is_returned(self):
        self.assertIsInstance(done(KINDS, (1, 2), ("swap", 0, None, 0)), tuple)
        self.assertIsInstance(done_all(KINDS, (1, 2), []), tuple)

    def test_what_is_no_text(self):
        for text in NO_TEXTS:
            for change in (("put", 0, 9, 0), None):
                with self.subTest(text=text):
                    raised(BadText, done, KINDS, text, change)
                    raised(BadText, done_all, KINDS, text, [change])

    def test_what_is_no_change(self):
        for change in NO_CHANGES + [[]]:
            with self.subTest(change=change):
                self.assertEqual(raised(BadChange, done, KINDS, (1, 2, 3), change).place, 0)

    def test_a_kind_that_the_kinds_do_not_have(self):
        few = Kinds({"cut": (1, ())})
        self.assertEqual(raised(BadChange, done, few, (1, 2), ("swap", 0, None, 0)).place, 0)

    def test_what_are_no_kinds(self):
        for kinds in (None, {}, KINDS.told, "put", 1, []):
            for call in (done, done_all):
                with self.subTest(kinds=kinds, call=call):
                    self.assertIsNone(raised(BadKinds, call, kinds, [1], "none").name)

    def test_the_error_that_is_documented_first(self):
        raised(BadText, done, KINDS, (1, 1), ("none", 0, 9, 0))
        raised(BadText, done, KINDS, (1, 1), ("cut", 7, None, 0))
        raised(BadText, done_all, KINDS, (1, True), None)
        self.assertEqual(raised(BadChange, done, KINDS, (), ("cut", 7, 9, 0)).place, 0)


class DoneAll(unittest.TestCase):
    def test_one_by_one(self):
        changes = [("put", 0, 9, 0), ("swap", 0, None, 1), None, ("set", 2, 8, 0), ("cut", 0, None, 7), None]
        texts = [(1, 2), (9, 1, 2), (1, 9, 2), (1, 9, 2), (1, 9, 8), (9, 8), (9, 8)]
        for many in range(len(changes) + 1):
            with self.subTest(many=many):
                self.assertEqual(done_all(KINDS, (1, 2), changes[:many]), texts[many])
                self.assertEqual(done_all(KINDS, (1, 2), tuple(changes[:many])), texts[many])
        for change, ahead, behind in zip(changes, texts, texts[1:]):
            self.assertEqual(done(KINDS, ahead, change), behind)

    def test_no_changes(self):
        for changes in ([], (), [None], (None, None)):
            self.assertEqual(done_all(KINDS, (4, 5), changes), (4, 5))
            self.assertEqual(done_all(KINDS, (), changes), ())

    def test_a_letter_may_come_again_when_it_is_gone(self):
        self.assertEqual(done_all(KINDS, (4,), [("cut", 0, None, 0), ("put", 0, 4, 0)]), (4,))

    def test_no_list_or_tuple(self):
        for changes in (None, 1, "", "put", {}, {0: None}, {"put"}, range(2), iter([])):
            with self.subTest(changes=changes):
                self.assertIsNone(raised(BadChange, done_all, KINDS, (1,), changes).place)

    def test_the_number_of_the_first_that_is_no_change(self):
        good = ("put", 0, 9, 0)
        for change in NO_CHANGES + [[]]:
            with self.subTest(change=change):
                self.assertEqual(raised(BadChange, done_all, KINDS, (1,), [change]).place, 0)
                self.assertEqual(raised(BadChange, done_all, KINDS, (1,), (good, None, change, change)).place, 2)
        self.assertEqual(raised(BadChange, done_all, KINDS, (1,), good).place, 0)

    def test_the_number_of_the_first_that_cannot_be_done(self):
        cut = ("cut", 0, None, 0)
        for changes, place in (([("cut", 5, None, 0), cut], 0), ([cut, cut, cut], 2), ([None, cut, None, cut, cut], 4),
                               ([("put", 0, 9, 0), ("put", 0, 9, 1)], 1),
                               ([("put", 0, 9, 0), None, ("set", 1, 9, 1)], 2),
                               ([("put", 3, 9, 0)], 0), ([("put", -1, 9, 0)], 0), ([cut, ("swap", 0, None, 0)], 1)):
            with self.subTest(changes=changes):
                self.assertEqual(raised(CannotDo, done_all, KINDS, (1, 2), changes).place, place)
                self.assertEqual(raised(CannotDo, done_all, KINDS, (1, 2), tuple(changes)).place, place)

    def test_what_is_no_change_is_told_ahead_of_what_cannot_be_done(self):
        changes = [("cut", 5, None, 0), ("cut", 0, None, 0), ("cut", 0, 9, 0)]
        self.assertEqual(raised(BadChange, done_all, KINDS, (1, 2), changes).place, 2)

    def test_the_list_is_not_changed(self):
        changes = [("put", 0, 9, 0), None, ("cut", 1, None, 1)]
        self.assertEqual(done_all(KINDS, (1, 2), changes), (9, 2))
        self.assertEqual(changes, [("put", 0, 9, 0), None, ("cut", 1, None, 1)])

    def test_a_refused_call_changes_nothing(self):
        changes = [("put", 0, 9, 0), ("cut", 7, None, 1), None]
        raised(CannotDo, done_all, KINDS, (1, 2), changes)
        self.assertEqual(changes, [("put", 0, 9, 0), ("cut", 7, None, 1), None])
        self.assertEqual(KINDS.names(), ["cut", "put", "set", "swap"])


if __name__ == "__main__":
    unittest.main()
