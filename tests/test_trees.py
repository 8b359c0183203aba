"""Trees of houses: point [27]."""

import unittest
from itertools import product

from changetables.errors import BadNumber, BadTable, BadText
from changetables.houses import BadStep, closing, run
from changetables.tables import natural
from changetables.trees import Grows, TreeEnd, Withers, closing_tree, judge_tree, run_tree
from changetables.twohands import judge_two
from plain import Lost, PlainTree, closed, draw_house, draw_tree, seeded
from reference import ROWS, SOMETIMES, bent, good_tables, kinds_of, raised
from test_houses import BENT, BOTH, FAR, NO_TABLES, NO_TEXTS, PUTS

CHAINS = [[0], [0, 1], [0, 1, 2], [0, 1, 2, 3], [0, 1, 2, 3, 4]]
STARS = [[0, 0], [0, 0, 0], [0, 0, 0, 0], [0, 0, 0, 0, 0]]
OTHERS = [[0, 0, 1], [0, 1, 0], [0, 1, 1], [0, 0, 1, 1, 2], [0, 1, 0, 2, 2], [0, 1, 1, 1, 1], [0, 0, 2, 3, 1]]
TREES = CHAINS + STARS + OTHERS
NO_LINKS = [None, 0, "0", {}, {0: 0}, (), [], [1], [-1], [0, 2], [0, -1], [0, 0, 3], [0, 1, 2, 4], [0] * 6, [0, 1, 2, 3, 4, 5],
            [None], ["0"], [0, True], [False], [0, None], [0, "1"], [[0]], iter([0]), [0, 1.0]]
PUT, CUT = ("does", ("put", 0, 7, 0)), ("does", ("cut", 0, None, 2))
# Steps that are none in a tree of three nodes.
NO_STEPS = [None, 0, "up", (), ("up",), ["up", 1], ("up", 1, 1), ("ups", 1), (None, 1), (["up"], 1), ("up", None), ("up", "1"),
            ("up", True), ("up", 0), ("up", -1), ("up", 3), ("down", 0), ("down", 3), ("down", -1), ("down", True), ("does", None),
            ("does", 0), ("does", ()), ("does", ("put", 0, 9)), ("does", ("pot", 0, 9, 0)), ("does", ("put", 0, None, 0)),
            ("does", ("put", 0, 9, 3)), ("does", ("put", 0, 9, -1)), ("does", ("cut", 0, 9, 0)), ("does", ["put", 0, 9, 0]),
            ("sends", 1), ("hears", 1)]


def told(end):
    """What a TreeEnd has."""
    return (end.texts, end.waiting, end.unheard)


def tables_for(random):
    """Natural tables, tables with some other entries, and tables by which two hands meet well."""
    tables = [natural(kinds_of(words)) for words in ("put", "put cut", "put cut swap set", "drop join")]
    tables += [bent(random, table.kinds, many) for table in tables for many in (1, 4, 12)]
    return tables + [table for words in SOMETIMES for table in good_tables(random, kinds_of(words), 1)]


class Run(unittest.TestCase):
    def check(self, table, text, links, steps, play):
        """Hold run_tree and closing_tree against a plain tree behind these steps."""
        found = run_tree(table, text, links, steps)
        if play is None:
            self.assertIsNone(found)
            self.assertIsNone(closing_tree(table, text, links, steps))
            return
        self.assertIs(type(found), TreeEnd)
        self.assertEqual(told(found), play.end())
        try:
            wanted = closed(play)
        except Lost:
            wanted = None
        late = closing_tree(table, text, tuple(links), tuple(steps))
        self.assertEqual(late, wanted)
        if late is not None:
            self.assertIs(type(late), list)
            end = run_tree(table, text, links, steps + late)
            self.assertEqual(told(end), play.end())
            self.assertEqual((set(end.waiting), set(end.unheard)), ({0}, {0}))
            self.assertEqual(closing_tree(table, text, links, steps + late), [])

    def test_against_plain_trees(self):
        random = seeded(81)
        for links in TREES:
            for table in tables_for(random):
                text, steps, play = draw_tree(random, table, links, random.randrange(60))
                self.check(table, text, links, steps, play)

    def test_many_steps(self):
        random = seeded(82)
        for links in TREES:
            for table in good_tables(random, kinds_of("put cut"), 2) + good_tables(random, kinds_of("cut swap"), 2):
                text, steps, play = draw_tree(random, table, links, 200)
                self.check(table, text, links, steps, play)

    def test_all_texts_are_the_same_where_all_two_changes_meet_well(self):
        random = seeded(83)
        for words in SOMETIMES + ["put cut swap", "cut set join", "cut put set swap"]:
            for table in good_tables(random, kinds_of(words), 2):
                for links in TREES[::3]:
                    text, steps, _ = draw_tree(random, table, links, 60)
                    end = run_tree(table, text, links, steps + closing_tree(table, text, links, steps))
                    self.assertEqual(len(set(end.texts)), 1)

    def test_each_word(self):
        steps = [("does", ("put", 0, 7, 0)), ("does", ("cut", 0, None, 2)), ("up", 2), ("up", 1), ("down", 1), ("down", 2),
                 ("down", 1), ("down", 2)]
        ends = [(((5, 6), (5, 6), (5, 6)), (0, 0, 0), (0, 0, 0)),
                (((7, 5, 6), (5, 6), (5, 6)), (0, 0, 0), (0, 1, 0)),
                (((7, 5, 6), (5, 6), (6,)), (0, 0, 1), (0, 1, 0)),
                (((7, 5, 6), (6,), (6,)), (0, 1, 1), (0, 1, 1)),
                (((7, 6), (6,), (6,)), (0, 1, 1), (0, 2, 1)),
                (((7, 6), (7, 6), (6,)), (0, 1, 1), (0, 1, 2)),
                (((7, 6), (7, 6), (6,)), (0, 1, 0), (0, 1, 1)),
                (((7, 6), (7, 6), (6,)), (0, 0, 0), (0, 0, 1)),
                (((7, 6), (7, 6), (7, 6)), (0, 0, 0), (0, 0, 0))]
        for many, end in enumerate(ends):
            self.assertEqual(told(run_tree(BOTH, (5, 6), [0, 1], steps[:many])), end)

    def test_a_form_that_comes_to_nothing_on_its_way_up(self):
        # The cut of node 2 stands in the row of node 1, but node 0 has cut the same letter.
        steps = [("does", ("cut", 0, None, 2)), ("does", ("cut", 0, None, 0)), ("up", 2), ("up", 1)]
        end = run_tree(BOTH, (5, 6), [0, 1], steps)
        self.assertEqual(told(end), (((6,), (6,), (6,)), (0, 1, 1), (0, 1, 1)))
        late = closing_tree(BOTH, (5, 6), [0, 1], steps)
        self.assertEqual(late, [("down", 1), ("down", 2)])
        end = run_tree(BOTH, (5, 6), [0, 1], steps + late)
        self.assertEqual(told(end), (((6,),) * 3, (0, 0, 0), (0, 0, 0)))

    def test_changes_of_the_node_0_do_not_wait(self):
        end = run_tree(BOTH, (), [0, 0], [("does", ("put", 0, 7, 0)), ("does", ("put", 0, 8, 0))])
        self.assertEqual(told(end), (((8, 7), (), ()), (0, 0, 0), (0, 2, 2)))

    def test_own_changes_of_a_node_between(self):
        # What node 1 does stands in its row, for node 2 to hear, and waits for node 0.
        end = run_tree(BOTH, (), [0, 1], [("does", ("put", 0, 7, 1))])
        self.assertEqual(told(end), (((), (7,), ()), (0, 1, 0), (0, 0, 1)))
        self.assertEqual(closing_tree(BOTH, (), [0, 1], [("does", ("put", 0, 7, 1))]),
                         [("up", 1), ("down", 1), ("down", 2)])

    def test_a_star_whose_upper_node_does_nothing_is_a_house(self):
        random = seeded(84)
        for table in tables_for(random):
            for hands in range(1, 6):
                text, steps, _ = draw_house(random, table, hands, 40)
                words = {"sends": "up", "hears": "down"}
                others = [("does", (*step[:3], step[3] + 1)) if word == "does" else (words[word], step + 1)
                          for word, step in steps]
                end, found = run(table, text, hands, steps), run_tree(table, text, [0] * hands, others)
                if end is None:
                    self.assertIsNone(found)
                    continue
                self.assertEqual(told(found), ((end.text, *end.texts), (0, *end.waiting), (0, *end.unheard)))
                late, again = closing(table, text, hands, steps), closing_tree(table, text, [0] * hands, others)
                self.assertEqual(again, late and [(words[word], step + 1) for word, step in late])

    def test_no_steps(self):
        for links in TREES:
            many = len(links) + 1
            for steps in ([], ()):
                self.assertEqual(told(run_tree(BOTH, (4, 5), links, steps)), (((4, 5),) * many, (0,) * many, (0,) * many))
                self.assertEqual(closing_tree(BOTH, (4, 5), links, steps), [])

    def test_closing_goes_by_the_first_node(self):
        steps = [("does", ("put", 0, 7, 3)), ("does", ("put", 0, 8, 2)), ("does", ("put", 0, 9, 0))]
        self.assertEqual(closing_tree(BOTH, (), [0, 0, 1], steps),
                         [("up", 2), ("up", 3), ("up", 1), ("down", 1), ("down", 1), ("down", 1), ("down", 2), ("down", 2),
                          ("down", 2), ("down", 3), ("down", 3), ("down", 3)])

    def test_forms_that_cannot_be_done(self):
        steps = [("does", ("put", 0, 7, 0)), ("does", ("put", 0, 8, 2)), ("up", 2)]
        self.assertEqual(told(run_tree(FAR, (), [0, 1], steps)), (((7,), (8,), (8,)), (0, 1, 1), (0, 1, 1)))
        self.assertIsNone(closing_tree(FAR, (), [0, 1], steps))
        self.assertIsNone(run_tree(FAR, (), [0, 1], steps + [("up", 1)]))
        self.assertIsNone(closing_tree(FAR, (), [0, 1], steps + [("up", 1)]))
        # On the way down, at a lower node.
        bad = PUTS.with_entry(("put", "put", 0, True), ("put", -1))
        steps = [("does", ("put", 0, 7, 0)), ("does", ("put", 0, 8, 2)), ("down", 1), ("down", 2)]
        self.assertIsNone(run_tree(bad, (), [0, 1], steps))
        self.assertEqual(told(run_tree(bad, (), [0, 1], steps[:3])), (((7,), (7,), (8,)), (0, 0, 1), (0, 0, 1)))
        self.assertIsNone(run_tree(bad, (), [0, 1], steps + [("up", 2)] * 4))

    def test_what_is_given_stays_and_what_is_returned_is_new(self):
        steps, links = [PUT, CUT], [0, 1]
        closing_tree(BOTH, (1, 2, 3), links, steps).append(1)
        run_tree(BOTH, (1, 2, 3), links, steps)
        self.assertEqual((steps, links), ([PUT, CUT], [0, 1]))
        self.assertEqual(len(closing_tree(BOTH, (1, 2, 3), links, steps)), 6)
        self.assertEqual([type(part) for part in told(run_tree(BOTH, (1, 2, 3), links, steps))], [tuple] * 3)


class Errors(unittest.TestCase):
    def test_the_order(self):
        for asked in (run_tree, closing_tree):
            for table in NO_TABLES:
                self.assertIsNone(raised(BadTable, asked, table, None, None, None).entry)
            for text in NO_TEXTS:
                raised(BadText, asked, BOTH, text, None, None)
            for links in NO_LINKS:
                raised(BadNumber, asked, BOTH, (1,), links, None)
            for steps in (None, 0, "", {}, iter([])):
                self.assertIsNone(raised(BadStep, asked, BOTH, (1,), [0, 1], steps).place)

    def test_all_links_of_up_to_six_nodes(self):
        for many in range(0, 7):
            for links in product(range(-1, many + 1), repeat=many) if many < 5 else [(0,) * many]:
                if 1 <= many <= 5 and all(0 <= upper <= at for at, upper in enumerate(links)):
                    self.assertEqual(len(run_tree(BOTH, (), links, []).texts), many + 1)
                    self.assertEqual(len(run_tree(BOTH, (), list(links), []).texts), many + 1)
                else:
                    raised(BadNumber, run_tree, BOTH, (), links, [])

    def test_what_is_no_step(self):
        for asked in (run_tree, closing_tree):
            for step in NO_STEPS:
                for steps in ([step], [PUT, step], (PUT, CUT, step, ("up", 0))):
                    with self.subTest(step=step):
                        self.assertEqual(raised(BadStep, asked, BOTH, (1, 2, 3), [0, 1], steps).place, min(2, len(steps) - 1))

    def test_what_cannot_be_made(self):
        for asked in (run_tree, closing_tree):
            for steps, number in (
                    # A change that cannot be done to the text of its node.
                    ([("does", ("cut", 3, None, 0))], 0), ([("does", ("cut", -1, None, 2))], 0),
                    ([PUT, ("does", ("put", 4, 9, 1))], 1), ([PUT, CUT, ("does", ("cut", 2, None, 2))], 2),
                    # A letter that the first text or an earlier change has.
                    ([("does", ("put", 0, 2, 0))], 0), ([PUT, ("does", ("put", 0, 7, 1))], 1),
                    ([("does", ("cut", 1, None, 1)), ("does", ("put", 0, 2, 1))], 1),
                    ([PUT, ("does", ("cut", 0, None, 0)), ("does", ("put", 0, 7, 0))], 2),
                    # Nothing that goes up or down.
                    ([("up", 1)], 0), ([PUT, ("up", 1)], 1), ([CUT, ("up", 2), ("up", 2)], 2), ([CUT, ("up", 1)], 1),
                    ([("down", 1)], 0), ([PUT, ("down", 2)], 1), ([PUT, ("down", 1), ("down", 1)], 2),
                    ([PUT, ("down", 1), ("down", 2), ("down", 2)], 3), ([PUT, ("down", 1), ("up", 1)], 2),
                    ([CUT, ("down", 2)], 1),
                    # The first of two.
                    ([PUT, ("up", 1), 7], 1), ([PUT, 7, ("up", 1)], 1)):
                with self.subTest(steps=steps):
                    self.assertEqual(raised(BadStep, asked, BOTH, (1, 2, 3), [0, 1], steps).place, number)

    def test_what_is_no_step_behind_a_form_that_cannot_be_done(self):
        steps = [("does", ("put", 0, 7, 0)), ("does", ("put", 0, 8, 1)), ("up", 1), ("up", 1)]
        for step in (7, ("up", 2), ("up", 0), ("down", 0), ("does", ("put", 0, 9, 5)), ("does", ("put", 0, 7, 0))):
            for asked in (run_tree, closing_tree):
                self.assertEqual(raised(BadStep, asked, FAR, (), [0], steps + [step]).place, 4)
            self.assertFalse(Withers((), steps + [step]).shows(FAR, [0]))


class Judge(unittest.TestCase):
    def check(self, table):
        """Hold the answers for all trees against that for two changes, and play what withers."""
        good = bool(judge_two(table))
        for links in TREES:
            found = judge_tree(table, links)
            self.assertIs(type(found), Grows if good else Withers)
            self.assertIs(bool(found), good)
            self.assertIs(found.shows(table, links), True)
            self.assertIs(found.shows(table, tuple(links)), True)
            self.assertEqual(judge_tree(table, tuple(links)), found)
            if good:
                self.assertEqual(found.links, links)
                self.assertIs(type(found.links), list)
            else:
                self.assertTrue(self.withers(table, found, links))
        return good

    def withers(self, table, found, links):
        """Whether steps, played plainly, are their own closing and fail."""
        play = PlainTree(table, found.text, links)
        for at, step in enumerate(found.steps):
            self.assertTrue(play.can(step))
            try:
                play.make(step)
            except Lost:
                return at == len(found.steps) - 1
        return play.next_step() is None and len(set(play.all_texts())) > 1

    def test_natural_tables(self):
        for words in ("put", "cut", "put cut"):
            self.assertTrue(self.check(natural(kinds_of(words))))
        for words in [name for name in ROWS if name not in ("put", "cut")] + ["put set", "put cut swap drop"]:
            self.assertFalse(self.check(natural(kinds_of(words))))

    def test_tables_with_other_entries(self):
        random = seeded(85)
        found = [self.check(bent(random, kinds_of(words), many)) for words in ("put", "cut", "put cut", "cut set drop")
                 for many in (1, 2, 5) for _ in range(2)]
        self.assertIn(False, found)

    def test_tables_by_which_two_meet_well_but_three_do_not_agree(self):
        random = seeded(86)
        for words in ("swap", "put cut", "cut join", "set swap", "put cut swap"):
            for table in good_tables(random, kinds_of(words), 2):
                self.assertTrue(self.check(table))

    def test_drawn_steps_fail_only_where_the_answer_is_no(self):
        random = seeded(87)
        for words in ("put", "cut", "put cut", "swap", "set join"):
            for table in good_tables(random, kinds_of(words), 2) + [bent(random, kinds_of(words), 1) for _ in range(5)]:
                for links in TREES[1::3]:
                    text, steps, play = draw_tree(random, table, links, 40)
                    late = closing_tree(table, text, links, steps)
                    if late is None or len(set(run_tree(table, text, links, steps + late).texts)) > 1:
                        self.assertFalse(judge_tree(table, links))

    def test_the_links_are_new(self):
        links = [0, 1]
        found = judge_tree(BOTH, links)
        found.links.append(1)
        self.assertEqual(links, [0, 1])
        links.append(2)
        self.assertEqual(found.links, [0, 1, 1])

    def test_errors(self):
        for table in NO_TABLES:
            self.assertIsNone(raised(BadTable, judge_tree, table, None).entry)
        for links in NO_LINKS:
            raised(BadNumber, judge_tree, BOTH, links)
            raised(BadNumber, judge_tree, BENT, links)


class Ends(unittest.TestCase):
    def test_equality(self):
        end = TreeEnd(((1,), (2,)), (0, 1), (1, 0))
        self.assertTrue(end == TreeEnd(((1,), (2,)), (0, 1), (1, 0)))
        for other in (TreeEnd(((1,), (1,)), (0, 1), (1, 0)), TreeEnd(((1,), (2,)), (1, 1), (1, 0)),
                      TreeEnd(((1,), (2,)), (0, 1), (0, 0)), None, 0, (((1,), (2,)), (0, 1), (1, 0))):
            self.assertFalse(end == other)
            self.assertTrue(end != other)


class GrowsEvidence(unittest.TestCase):
    def test_equal_and_bool(self):
        self.assertTrue(Grows([0, 1]) == Grows((0, 1)))
        for other in (Grows([0, 0]), Grows([0]), None, [0, 1], Withers((), [])):
            self.assertFalse(Grows([0, 1]) == other)
        self.assertIs(bool(Grows([0])), True)

    def test_the_list_is_a_new_one(self):
        links = [0, 1]
        found = Grows(links)
        links.append(1)
        self.assertEqual(found.links, [0, 1])
        self.assertIs(type(Grows((0, 1)).links), list)

    def test_shows(self):
        for links in TREES:
            self.assertIs(Grows(links).shows(BOTH, links), True)
            self.assertIs(Grows(links).shows(BENT, links), False)
            self.assertIs(Grows([*links[:-1], len(links)]).shows(BOTH, links), False)
        found = Grows([0, 1])
        found.links = [0, 0]
        self.assertIs(found.shows(BOTH, [0, 1]), False)
        self.assertIs(found.shows(BOTH, (0, 0)), True)
        for links in ([], [0], [0, 1, 1], [0, 2], [0, -1], [False, 0], (0, 0), [0] * 9):
            found.links = links
            self.assertIs(found.shows(BOTH, [0, 0]), False)

    def test_errors(self):
        for table in NO_TABLES:
            self.assertIsNone(raised(BadTable, Grows([0]).shows, table, None).entry)
        for links in NO_LINKS:
            raised(BadNumber, Grows([0]).shows, BOTH, links)
            raised(BadNumber, Grows([7]).shows, BENT, links)


class WithersEvidence(unittest.TestCase):
    DOES = [("does", ("put", 0, 7, 0)), ("does", ("put", 0, 8, 1))]
    LATE = [("up", 1), ("down", 1), ("down", 1)]

    def test_equal_and_bool(self):
        found = Withers((1,), self.DOES)
        self.assertTrue(found == Withers((1,), tuple(self.DOES)))
        for other in (Withers((2,), self.DOES), Withers((1,), self.DOES[:1]), None, Grows([0]), (1,)):
            self.assertFalse(found == other)
        self.assertIs(bool(found), False)

    def test_the_list_is_a_new_one(self):
        steps = list(self.DOES)
        found = Withers((), steps)
        steps.append(1)
        self.assertEqual(found.steps, self.DOES)
        self.assertIs(type(Withers((), tuple(self.DOES)).steps), list)

    def test_shows_steps_that_fail(self):
        self.assertIs(Withers((), self.DOES + self.LATE).shows(BENT, [0]), True)
        self.assertIs(Withers((4, 5), self.DOES + [self.LATE[at] for at in (1, 0, 2)]).shows(BENT, (0,)), True)
        self.assertIs(Withers((), self.DOES + self.LATE + [("down", 2), ("down", 2)]).shows(BENT, [0, 0]), True)
        # A form that cannot be done is enough, whatever comes behind it.
        self.assertIs(Withers((), self.DOES + self.LATE[:1]).shows(FAR, [0]), True)
        self.assertIs(Withers((), self.DOES + self.LATE).shows(FAR, [0]), True)

    def test_shows_steps_that_are_not_their_own_closing(self):
        for many in range(len(self.LATE)):
            self.assertIs(Withers((), self.DOES + self.LATE[:many]).shows(BENT, [0]), False)
        for links in ([0, 0], [0, 1]):
            self.assertIs(Withers((), self.DOES + self.LATE).shows(BENT, links), False)
        self.assertIs(Withers((), self.DOES).shows(FAR, [0]), False)

    def test_shows_steps_that_do_not_fail(self):
        self.assertIs(Withers((), self.DOES + self.LATE).shows(PUTS, [0]), False)
        self.assertIs(Withers((), []).shows(BENT, [0]), False)
        self.assertIs(Withers((), self.DOES[:1] + [("down", 1)]).shows(BENT, [0]), False)
        self.assertIs(Withers((), self.DOES + self.LATE).shows(natural(kinds_of("cut")), [0]), False)

    def test_shows_what_the_attributes_are_now(self):
        found = judge_tree(BENT, [0, 1])
        steps = list(found.steps)
        for changed in (steps[:-1], steps[1:], [*steps, ("down", 1)], [*steps, ("up", 2)], steps[::-1], [], [*steps, 7],
                        [("does", None), *steps[1:]], tuple(steps), [list(step) for step in steps]):
            found.steps = changed
            self.assertIs(found.shows(BENT, [0, 1]), False)
        found.steps = steps
        self.assertIs(found.shows(BENT, [0, 1]), True)
        for text in ((100,), (101, 5), (1, 1), (True,), [], None, (1, "2")):
            found.text = text
            self.assertIs(found.shows(BENT, [0, 1]), False)
        found.text = (1, 2, 3)
        self.assertIs(found.shows(BENT, [0, 1]), True)

    def test_steps_that_are_none(self):
        for step in NO_STEPS:
            for at in (0, 2, 7):
                steps = self.DOES + self.LATE + [("down", 2)] * 2
                steps.insert(at, step)
                self.assertIs(Withers((), steps).shows(BENT, [0, 1]), False)
        self.assertIs(Withers((), self.DOES + self.LATE + [("down", 2)] * 2).shows(BENT, [0, 1]), True)

    def test_errors(self):
        for table in NO_TABLES:
            self.assertIsNone(raised(BadTable, Withers(None, []).shows, table, None).entry)
        for links in NO_LINKS:
            raised(BadNumber, Withers(None, []).shows, BOTH, links)


if __name__ == "__main__":
    unittest.main()
