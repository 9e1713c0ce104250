import copy
import random
import unittest

from tests import plain
from tests.samples import FILL, LEAST, MILL, TAPS, TAPS_KNOWN, TUB
from tests.samples import altered, any_story, any_taps, any_things, boxes_of, retold, stuck_of, swapped
from worktwin.errors import TooMany
from worktwin.lotpapers import lot_paper, shows_lot
from worktwin.lots import lots
from worktwin.nonepapers import none_paper, shows_none
from worktwin.runs import shows_run


def less(lot, part):
    return tuple([one for one in lot if one != part])


class LotPaperTest(unittest.TestCase):
    def check(self, works, story, lot, **more):
        """Asks for the paper of one of lots."""
        found = lot_paper(works, story, lot, **more)
        self.assertIs(type(found), tuple)
        run, rows = found
        self.assertTrue(plain.is_run(works, story, run, lot))
        self.assertIs(shows_run(works, story, run, lot=lot), True)
        self.assertIs(type(rows), list)
        self.assertEqual([row[0] for row in rows], list(lot))
        for row in rows:
            self.assertIs(type(row), tuple)
            part, paper = row
            self.assertTrue(plain.is_none_paper(works, story, paper, less(lot, part)))
            self.assertIs(shows_none(works, story, paper, lot=less(lot, part)), True)
        self.assertIs(shows_lot(works, story, lot, found), True)
        return found

    def test_known_by_hand(self):
        for signs, wanted, *_ in TAPS_KNOWN:
            story = (["go"], signs)
            for lot in plain.subsets("abcd"):
                with self.subTest((signs, lot)):
                    if lot in wanted:
                        self.check(TAPS, story, lot)
                    else:
                        self.assertIsNone(lot_paper(TAPS, story, lot))

    def test_the_lot_of_none_has_a_run_and_no_rows(self):
        self.assertEqual(self.check(TAPS, (["go"], []), ())[1], [])
        self.assertEqual(self.check(LEAST, ([], []), ()), ([(("m",), (0,))], []))
        self.assertEqual(self.check(TUB, (FILL, [(2, "rod", 5)]), ())[1], [])

    def test_a_lot_as_a_list(self):
        story = (["go"], [(1, "rod", 2)])
        for lot in (("c",), ("a", "b")):
            self.assertEqual(repr(lot_paper(TAPS, story, list(lot))), repr(lot_paper(TAPS, story, lot)))
            self.assertIs(shows_lot(TAPS, story, list(lot), lot_paper(TAPS, story, lot)), True)
        for lot in ([], ["a"], ["a", "c"], ["a", "b", "c"]):
            self.assertIsNone(lot_paper(TAPS, story, lot))

    def test_too_many_by_the_lot_of_all_parts(self):
        # By all parts 16 are open.
        for lot in ((), ("a",), ("a", "b", "c", "d"), ["d"]):
            with self.assertRaises(TooMany) as caught:
                lot_paper(TAPS, (["go"], []), lot, most=15)
            self.assertEqual(caught.exception.what, 15)
            self.assertEqual(lot_paper(TAPS, (["go"], []), lot, most=16) is None, lot != ())
            with self.assertRaises(TooMany):
                lot_paper(TAPS, (["go", "wait"], [(2, "rod", 9)]), lot, most=15)
            self.assertIsNone(lot_paper(TAPS, (["go", "wait"], [(0, "rod", 9)]), lot, most=15))
        with self.assertRaises(TooMany) as caught:
            lot_paper(boxes_of(9, 9, 2), ([], []), ("p",))
        self.assertEqual(caught.exception.what, 200)
        self.assertIsNone(lot_paper(boxes_of(9, 9, 1), ([], []), ("p",)))
        self.assertIsNotNone(lot_paper(boxes_of(9, 9, 2), ([], []), (), most=300))
        works, story = stuck_of(9, 9, 2)
        self.check(works, story, ("p",), most=300)

    def test_lists_for_tuples_and_names(self):
        story = (["draw", "wait"], [(1, "hand", "shut"), (2, "eye", 4)])
        lot = lots(MILL, story)[0]
        handed = [swapped(MILL), swapped(story), list(lot)]
        ahead = copy.deepcopy(handed)
        found = lot_paper(*handed)
        self.assertEqual(repr(found), repr(lot_paper(works=MILL, story=story, lot=lot, most=200)))
        self.assertIs(shows_lot(*handed, found), True)
        self.assertIs(shows_lot(works=MILL, story=story, lot=lot, thing=found), True)
        self.assertEqual(handed, ahead)
        with self.assertRaises(TypeError):
            lot_paper(MILL, story, lot, 200)

    def test_told_lists_are_the_askers_own(self):
        story = (["go", "wait"], [(2, "rod", 2), (1, "eyed", "off")])
        lot = lots(TAPS, story)[0]
        self.assertGreater(len(lot), 1)
        found = self.check(TAPS, story, lot)
        lists = [found[0], found[1], *[row[1] for row in found[1]], *[one for row in found[1] for one in row[1]]]
        self.assertEqual(len({id(one) for one in lists}), len(lists))
        again = copy.deepcopy(found)
        for one in lists:
            one.clear()
        self.assertEqual(lot_paper(TAPS, story, lot), again)

    def test_as_the_document_words_it(self):
        rng = random.Random(211)
        told = []
        while len(told) < 120:
            works = any_taps(rng)
            story = plain.lived_story(rng, works, tuple([part[0] for part in works[2]]), 3)
            if len(told) % 10 == 0:
                story = any_story(rng, works, 2, 3)
            every = plain.explaining(works, story)
            if every is None or (every and every[0] == () and rng.random() < 0.9):
                continue
            for lot in plain.subsets([part[0] for part in works[2]]):
                if lot in plain.least(every):
                    self.check(works, story, lot, most=4000)
                else:
                    self.assertIsNone(lot_paper(works, story, lot, most=4000))
            told.append(len(plain.least(every)))
        self.assertGreater(len([many for many in told if many > 1]), 10)


class ShowsLotTest(unittest.TestCase):
    # Neither a nor b came on, as the tub tells; so c did.
    STORY = (["go", "wait"], [(2, "rod", 4), (2, "eyec", "on")])
    LOT = ("a", "b")

    def setUp(self):
        self.run, self.rows = lot_paper(TAPS, self.STORY, self.LOT)

    def wrong(self, *things, lot=LOT):
        for thing in things:
            with self.subTest(thing):
                self.assertIs(shows_lot(TAPS, self.STORY, lot, thing), False)

    def right(self, *things, lot=LOT):
        for thing in things:
            with self.subTest(thing):
                self.assertIs(shows_lot(TAPS, self.STORY, lot, thing), True)

    def test_right_pairs(self):
        self.right((self.run, self.rows))
        for run in plain.runs(TAPS, self.STORY, self.LOT):
            self.right((run, self.rows))

    def test_papers_with_more_stands(self):
        (_, first), (_, second) = self.rows
        more = (("off", "off", "off", "on"), (0,))
        longer = [sorted([*first[0], more]), *first[1:]]
        self.assertIs(shows_none(TAPS, self.STORY, longer, lot=("b",)), True)
        self.right((self.run, [("a", longer), ("b", second)]))

    def test_another_run(self):
        for lot in (("a", "b", "c", "d"), ("c",), ()):
            for run in plain.runs(TAPS, (["go", "wait"], []), lot):
                shown = run in plain.runs(TAPS, self.STORY, self.LOT)
                self.assertIs(shows_lot(TAPS, self.STORY, self.LOT, (run, self.rows)), shown)
        self.wrong((self.run[:-1], self.rows), (self.run + self.run[-1:], self.rows), ([], self.rows), (None, self.rows))
        self.wrong((self.run[::-1], self.rows))

    def test_rows(self):
        first, second = self.rows
        self.wrong((self.run, []), (self.run, [first]), (self.run, [second]), (self.run, [second, first]))
        self.wrong((self.run, [first, first]), (self.run, [first, second, second]), (self.run, [first, first, second]))
        self.wrong((self.run, [first, second, ("c", second[1])]), (self.run, [("c", first[1]), second]))
        self.wrong((self.run, [first, ("a", second[1])]), (self.run, [("b", first[1]), second]))

    def test_papers_of_other_lots(self):
        (_, first), (_, second) = self.rows
        # Without a, b and c are left; the paper of b must not let a act.
        for lot in plain.subsets("abcd"):
            paper = none_paper(TAPS, self.STORY, lot=lot)
            if paper is not None:
                shown = plain.is_none_paper(TAPS, self.STORY, paper, ("b",))
                self.assertIs(shows_lot(TAPS, self.STORY, self.LOT, (self.run, [("a", paper), ("b", second)])), shown)
        self.wrong((self.run, [("a", none_paper(TAPS, self.STORY)), ("b", second)]))
        self.wrong((self.run, [("a", []), ("b", second)]), (self.run, [("a", first), ("b", None)]))
        self.wrong((self.run, [("a", [[]]), ("b", second)]), (self.run, [("a", first[:1]), ("b", second)]))

    def test_other_lots(self):
        thing = (self.run, self.rows)
        self.wrong(thing, lot=())
        self.wrong(thing, lot=("a",))
        self.wrong(thing, lot=("a", "c"))
        self.wrong(thing, lot=("a", "b", "c"))
        self.wrong((self.run, []), lot=())
        # By more parts there are runs, but no papers.
        self.wrong((self.run, [*self.rows, ("d", self.rows[1][1])]), lot=("a", "b", "d"))
        self.wrong((self.run, [*self.rows, ("d", [[]])]), lot=("a", "b", "d"))

    def test_lists_tuples_and_truths(self):
        self.wrong(swapped((self.run, self.rows)), *retold((self.run, self.rows)))
        self.wrong([self.run, self.rows], (self.run, tuple(self.rows)), (tuple(self.run), self.rows))
        self.wrong((self.run, self.rows, []), (self.run,), ())

    def test_any_thing_is_told_of_and_not_changed(self):
        for lot in ((), ("a",), self.LOT):
            for thing in any_things(212):
                ahead = repr(thing)
                self.assertIs(shows_lot(TAPS, self.STORY, lot, thing), False)
                self.assertEqual(repr(thing), ahead)
        for thing in altered((self.run, self.rows), 213, 1):
            ahead = repr(thing)
            self.assertIn(shows_lot(TAPS, self.STORY, self.LOT, thing), (True, False))
            self.assertEqual(repr(thing), ahead)
        for thing in any_things(214):
            self.assertIs(shows_lot(TUB, ([], []), (), thing), False)

    def test_another_story(self):
        other = (["go", "wait"], [(2, "rod", 4)])
        # Without c's sign c alone explains it too, but a and b together are one of lots all the same.
        self.assertEqual(lots(TAPS, other), [("c",), ("a", "b")])
        self.assertIs(shows_lot(TAPS, other, self.LOT, lot_paper(TAPS, other, self.LOT)), True)
        self.assertIs(shows_lot(TAPS, other, ("c",), lot_paper(TAPS, other, self.LOT)), False)
        self.assertIs(shows_lot(TAPS, self.STORY, ("c",), lot_paper(TAPS, other, ("c",))), False)
        self.assertIs(shows_lot(TAPS, (["go"], [(1, "rod", 2)]), self.LOT, (self.run, self.rows)), False)
        self.assertIs(shows_lot(TAPS, (["go", "go"], [(1, "rod", 3)]), self.LOT, (self.run, self.rows)), False)

    def test_as_the_document_words_it(self):
        rng = random.Random(215)
        told = []
        while len(told) < 300:
            works = any_taps(rng)
            parts = [part[0] for part in works[2]]
            story = plain.lived_story(rng, works, tuple(parts), 3)
            every = plain.explaining(works, story)
            if not every or every[0] == ():
                continue
            for lot in plain.subsets(parts):
                runs = plain.runs(works, story, rng.choice((lot, tuple(parts))))
                if not runs or len(runs) > 500:
                    continue
                rows = []
                for part in lot:
                    papers = [none_paper(works, story, lot=some, most=4000) for some in (less(lot, part), ())]
                    rows.append((part, rng.choice([one for one in papers if one is not None] or [[[]]])))
                run = rng.choice(runs)
                right = plain.is_run(works, story, run, lot) and all(
                    plain.is_none_paper(works, story, paper, less(lot, part)) for part, paper in rows
                )
                self.assertIs(shows_lot(works, story, lot, (run, rows)), right)
                self.assertTrue(lot in plain.least(every) or not right)
                told.append(right)
        self.assertGreater(min(told.count(True), told.count(False)), 20)


if __name__ == "__main__":
    unittest.main()
