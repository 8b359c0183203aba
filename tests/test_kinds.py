"""Kinds: point [2], and what point [1] says of them."""

import unittest
from itertools import product

from changetables.errors import BadKinds
from changetables.kinds import Kinds

PUT, CUT, SWAP = (0, ("new",)), (1, ()), (2, (1, 0))

EVERY_KIND = [
    (0, ("new",)),
    (1, ()), (1, ("new",)),
    (2, ()), (2, ("new",)), (2, (1, 0)), (2, ("new", 0)), (2, (1, "new")),
    (2, ("new", 1, 0)), (2, (1, "new", 0)), (2, (1, 0, "new")),
]

NO_KINDS = [
    # Rows that are none for their width.
    (0, ()), (0, (0,)), (0, ("new", 0)), (0, ("new", "new")),
    (1, (0,)), (1, ("new", 0)), (1, (0, "new")), (1, ("new", "new")), (1, (1,)), (1, ("new", 1)), (1, ("new", -1)),
    (2, (0,)), (2, (1,)), (2, (0, 1)), (2, ("new", 1)), (2, (0, "new")), (2, (1, 1)), (2, ("new", "new")),
    (2, (0, 1, "new")), (2, (0, "new", 1)), (2, ("new", 0, 1)), (2, (0, "new", 0)), (2, (1, "new", 1)),
    (2, ("new", 1, "new")), (2, ("new", 2, 0)), (2, (1, 2, 0)), (2, (1, -1, 0)), (2, (-1,)), (2, (2,)),
    (2, (1, "new", 0, "new")), (2, (1, 0, 1, 0)), (2, ("new", 1, 0, 0)),
    # Entries of rows that are neither numbers nor "new".
    (0, ("old",)), (1, ("New",)), (1, ("new ",)), (1, ("",)), (1, (None,)), (2, ("1", "0")), (2, (1.0, 0)),
    (2, (1, None, 0)), (2, (1, ["new"], 0)), (2, ((1, 0),)),
    # Booleans are not integers.
    (False, ("new",)), (True, ()), (True, ("new",)), (2, (True, 0)), (2, (1, False)), (2, (True, False)),
    (2, ("new", False)), (2, (True, "new")),
    # Other widths.
    (3, ()), (3, ("new",)), (3, (2, 1, 0)), (3, (1,)), (-1, ()), (-1, ("new",)), (1.0, ()), ("1", ()), (None, ()),
    # Lists are no tuples, and pairs have two parts.
    [1, ()], (1, []), (0, ["new"]), (2, [1, 0]), (0, "new"), (0, {"new": True}), (0, None),
    (1,), (1, (), ()), (), 1, None, "cut", {1: ()},
]

NO_NAMES = ["", "abcdefghi", "Put", "PUT", "puT", "put1", "1", "put ", " put", "pu t", "put_", "put-it", "put\n",
            "\u00e4", "stra\u00dfe", "\u03b1\u03b2", "\u00aa", 1, True, None, 2.5, ("put",), b"put", frozenset()]


class Told(unittest.TestCase):
    def assert_bad(self, told, name):
        with self.assertRaises(BadKinds) as caught:
            Kinds(told)
        self.assertEqual(caught.exception.name, name)

    def test_every_kind_there_is(self):
        for kind in EVERY_KIND:
            with self.subTest(kind=kind):
                self.assertEqual(Kinds({"a": kind})["a"], kind)

    def test_near_ones_are_none(self):
        for kind in NO_KINDS:
            with self.subTest(kind=kind):
                self.assert_bad({"a": kind}, "a")

    def test_of_all_short_rows_just_these_are_kinds(self):
        parts = ["new", -1, 0, 1, 2]
        for width in range(-1, 5):
            for length in range(5):
                for row in product(parts, repeat=length):
                    with self.subTest(width=width, row=row):
                        if (width, row) in EVERY_KIND:
                            self.assertEqual(Kinds({"a": (width, row)})["a"], (width, row))
                        else:
                            self.assert_bad({"a": (width, row)}, "a")

    def test_names(self):
        for name in ("a", "z", "put", "abcdefgh", "zzzzzzzz"):
            with self.subTest(name=name):
                self.assertEqual(Kinds({name: CUT}).names(), [name])

    def test_what_is_no_name(self):
        for name in NO_NAMES:
            with self.subTest(name=name):
                self.assert_bad({name: CUT}, None)
                self.assert_bad({"a": PUT, name: CUT}, None)
                self.assert_bad({name: CUT, "z": PUT}, None)

    def test_one_to_four_names(self):
        for many in range(1, 5):
            told = dict(zip("abcd"[:many], EVERY_KIND))
            self.assertEqual(Kinds(told).told, told)

    def test_no_name_and_five_names(self):
        self.assert_bad({}, None)
        self.assert_bad(dict(zip("abcde", EVERY_KIND)), None)

    def test_what_is_no_dict(self):
        for told in (None, [], ["a"], [("a", CUT)], (("a", CUT),), "a", 1, {"a"}, Kinds({"a": CUT})):
            with self.subTest(told=told):
                self.assert_bad(told, None)

    def test_what_is_no_dict_of_names_is_told_ahead_of_kinds_that_are_none(self):
        self.assert_bad({"a": None, 1: CUT}, None)
        self.assert_bad({"a": None, "A": CUT}, None)
        self.assert_bad({name: None for name in "abcde"}, None)

    def test_the_first_name_ascending_whose_kind_is_none(self):
        self.assert_bad({"d": None, "b": (3, ()), "c": None, "a": CUT}, "b")
        self.assert_bad({"c": None, "b": CUT, "a": PUT}, "c")
        self.assert_bad({"ab": None, "aa": PUT, "b": None}, "ab")

    def test_the_first_name_ascending_whose_kind_was_told(self):
        self.assert_bad({"b": CUT, "a": CUT}, "b")
        self.assert_bad({"d": CUT, "c": PUT, "b": CUT, "a": SWAP}, "d")
        self.assert_bad({"d": PUT, "c": CUT, "b": CUT, "a": PUT}, "c")

    def test_a_kind_told_twice_and_one_that_is_none(self):
        self.assert_bad({"a": CUT, "b": CUT, "c": None}, "b")
        self.assert_bad({"a": CUT, "b": None, "c": CUT}, "b")
        self.assert_bad({"a": None, "b": CUT, "c": CUT}, "a")

    def test_told_is_ascending_by_the_names(self):
        kinds = Kinds({"swap": SWAP, "put": PUT, "cut": CUT})
        self.assertEqual(list(kinds.told.items()), [("cut", CUT), ("put", PUT), ("swap", SWAP)])
        self.assertIsInstance(kinds.told, dict)

    def test_a_dict_changed_behind_it_changes_nothing(self):
        told = {"put": PUT, "cut": CUT}
        kinds = Kinds(told)
        told["swap"] = SWAP
        told["put"] = (1, ("new",))
        del told["cut"]
        self.assertEqual(kinds.told, {"cut": CUT, "put": PUT})
        self.assertEqual((kinds.names(), kinds["put"], len(kinds)), (["cut", "put"], PUT, 2))

    def test_the_dict_is_not_changed(self):
        told = {"put": PUT, "cut": CUT}
        Kinds(told)
        self.assertEqual(list(told.items()), [("put", PUT), ("cut", CUT)])


class Asked(unittest.TestCase):
    def setUp(self):
        self.kinds = Kinds({"swap": SWAP, "put": PUT, "cut": CUT})

    def test_a_kind_by_its_name(self):
        self.assertEqual([self.kinds[name] for name in ("put", "cut", "swap")], [PUT, CUT, SWAP])

    def test_growth(self):
        growths = [Kinds({"a": kind}).growth("a") for kind in EVERY_KIND]
        self.assertEqual(growths, [1, -1, 0, -2, -1, 0, 0, 0, 1, 1, 1])

    def test_no_name_of_it(self):
        for name in ("set", "", "Put", "cu", "cutt", 0, 1, True, None, 1.5, ("cut",), ["cut"], {}, b"cut"):
            for asked in (lambda: self.kinds[name], lambda: self.kinds.growth(name)):
                with self.subTest(name=name):
                    with self.assertRaises(BadKinds) as caught:
                        asked()
                    self.assertEqual(caught.exception.name, name)

    def test_in(self):
        for name in ("put", "cut", "swap"):
            self.assertIs(name in self.kinds, True)
        for name in ("set", "", "Put", "cu", 0, True, None, ("cut",), ["cut"], {}, PUT):
            with self.subTest(name=name):
                self.assertIs(name in self.kinds, False)

    def test_len(self):
        self.assertEqual(len(self.kinds), 3)
        self.assertEqual(len(Kinds({"a": CUT})), 1)

    def test_names_are_ascending_and_a_new_list(self):
        names = self.kinds.names()
        self.assertEqual(names, ["cut", "put", "swap"])
        names.append("set")
        names[0] = "get"
        self.assertEqual(self.kinds.names(), ["cut", "put", "swap"])
        self.assertEqual(list(self.kinds.told), ["cut", "put", "swap"])

    def test_equal_if_what_is_told_is(self):
        same = Kinds({"cut": CUT, "put": PUT, "swap": SWAP})
        self.assertTrue(self.kinds == same)
        self.assertFalse(self.kinds != same)

    def test_not_equal(self):
        others = [Kinds({"cut": CUT, "put": PUT}), Kinds({"cut": CUT, "put": PUT, "swaps": SWAP}),
                  Kinds({"cut": PUT, "put": CUT, "swap": SWAP}), self.kinds.told, self.kinds.names(), None, 3]
        for other in others:
            with self.subTest(other=other):
                self.assertFalse(self.kinds == other)
                self.assertTrue(self.kinds != other)

    def test_walking_over_kinds(self):
        with self.assertRaises(TypeError):
            iter(self.kinds)
        with self.assertRaises(TypeError):
            list(self.kinds)
        with self.assertRaises(TypeError):
            for _ in self.kinds:
                self.fail("kinds were walked over")

    def test_a_refused_call_changes_nothing(self):
        for name in ("set", None, ["cut"]):
            with self.assertRaises(BadKinds):
                self.kinds[name]
            with self.assertRaises(BadKinds):
                self.kinds.growth(name)
        self.assertEqual(self.kinds, Kinds({"swap": SWAP, "put": PUT, "cut": CUT}))


if __name__ == "__main__":
    unittest.main()
