import copy
import random
import unittest

from tests import plain
from tests.samples import FILL, LEAST, MILL, TAPS, TAPS_KNOWN, TUB, any_story, any_taps, any_works, boxes_of, swapped
from worktwin.errors import TooMany
from worktwin.lots import blamed, cores, explains, lots
from worktwin.nonepapers import none_paper, shows_none

ALL = (lots, cores, blamed)


class KnownTest(unittest.TestCase):
    def test_known_by_hand(self):
        for signs, wanted_lots, wanted_cores, wanted_blamed in TAPS_KNOWN:
            with self.subTest(signs):
                story = (["go"], signs)
                self.assertEqual(lots(TAPS, story), wanted_lots)
                self.assertEqual(cores(TAPS, story), wanted_cores)
                self.assertEqual(blamed(TAPS, story), wanted_blamed)

    def test_explains_just_what_has_all_of_one_of_lots(self):
        for signs, wanted, *_ in TAPS_KNOWN:
            for lot in plain.subsets("abcd"):
                found = any(set(one) <= set(lot) for one in wanted)
                self.assertIs(explains(TAPS, (["go"], signs), lot), found)
                self.assertIs(explains(works=TAPS, story=(["go"], signs), lot=list(lot), most=200), found)

    def test_no_deeds(self):
        for ask, wanted in ((lots, [()]), (cores, []), (blamed, ((), ()))):
            self.assertEqual(ask(LEAST, ([], [])), wanted)
            self.assertEqual(ask(TAPS, ([], [])), wanted)
        for ask, wanted in ((lots, []), (cores, [()]), (blamed, ((), ()))):
            self.assertEqual(ask(TAPS, ([], [(0, "rod", 1)])), wanted)
        self.assertIs(explains(LEAST, ([], []), ()), True)
        self.assertIs(explains(TAPS, ([], [(0, "rod", 1)]), ("a",)), False)

    def test_odd_modes_explain(self):
        story = (FILL, [(2, "rod", 0)])
        self.assertEqual(lots(TUB, story), [("plug",)])
        self.assertEqual(cores(TUB, story), [("plug",)])
        self.assertEqual(lots(TUB, (FILL, [(1, "knob", "shut")])), [("tap",)])
        self.assertEqual(lots(TUB, (FILL, [(1, "rod", 1)])), [("plug",), ("tap",)])
        self.assertEqual(cores(TUB, (FILL, [(1, "rod", 1), (2, "rod", 0)])), [("plug",)])
        self.assertEqual(lots(TUB, (FILL, [(1, "knob", "shut"), (1, "rod", 0)])), [("plug", "tap")])
        self.assertEqual(blamed(TUB, (FILL, [(1, "rod", 1)])), ((), ("plug", "tap")))

    def test_told_lists_are_the_askers_own(self):
        for signs, *_ in TAPS_KNOWN:
            for ask in (lots, cores):
                found = ask(TAPS, (["go"], signs))
                again = copy.deepcopy(found)
                self.assertIs(type(found), list)
                self.assertTrue(all(type(one) is tuple for one in found))
                found.clear()
                found.append(("more",))
                self.assertEqual(ask(TAPS, (["go"], signs)), again)

    def test_lists_for_tuples_and_names(self):
        for signs, *_ in TAPS_KNOWN:
            handed = [swapped(TAPS), swapped((["go"], signs))]
            ahead = copy.deepcopy(handed)
            for ask in ALL:
                found = ask(*handed)
                self.assertEqual(found, ask(works=TAPS, story=(["go"], signs), most=200))
                self.assertEqual(repr(found), repr(ask(TAPS, (["go"], signs))))
            self.assertEqual(handed, ahead)
        for ask in ALL:
            with self.assertRaises(TypeError):
                ask(TAPS, ([], []), 200)
        with self.assertRaises(TypeError):
            explains(TAPS, ([], []), (), 200)


class TooManyTest(unittest.TestCase):
    def refused(self, what, ask, *arguments, **more):
        with self.assertRaises(TooMany) as caught:
            ask(*arguments, **more)
        self.assertEqual(caught.exception.what, what)

    def test_by_the_lot_of_all_parts(self):
        # By no lot 1 is open, then 1; by all parts 1, then 16.
        story = (["go"], [])
        for ask, wanted in ((lots, [()]), (cores, []), (blamed, ((), ()))):
            self.refused(15, ask, TAPS, story, most=15)
            self.refused(1, ask, TAPS, story, most=1)
            self.assertEqual(ask(TAPS, story, most=16), wanted)
        # 16, though in the end nothing explains them.
        story = (["go", "wait"], [(2, "rod", 9), (2, "rod", 8)])
        for ask, wanted in ((lots, []), (cores, [()]), (blamed, ((), ()))):
            self.refused(15, ask, TAPS, story, most=15)
            self.assertEqual(ask(TAPS, story, most=16), wanted)

    def test_explains_by_its_own_lot(self):
        story = (["go"], [])
        self.assertIs(explains(TAPS, story, (), most=1), True)
        self.assertIs(explains(TAPS, story, ("a",), most=2), True)
        self.refused(1, explains, TAPS, story, ("a",), most=1)
        self.refused(1, explains, TAPS, story, ["a"], most=1)
        self.assertIs(explains(TAPS, story, ("a", "b", "d"), most=8), True)
        self.refused(7, explains, TAPS, story, ("a", "b", "d"), most=7)
        self.refused(15, explains, TAPS, story, ("a", "b", "c", "d"), most=15)
        self.refused(3, explains, TUB, (FILL, [(2, "rod", 9)]), (), most=3)
        self.assertIs(explains(TUB, (FILL, [(2, "rod", 9)]), (), most=4), False)

    def test_most_left_out_is_200(self):
        for ask in ALL:
            ask(boxes_of(9, 9, 1), ([], []))
            self.refused(200, ask, boxes_of(9, 9, 2), ([], []))
            ask(boxes_of(9, 9, 2), ([], []), most=300)
        self.assertIs(explains(boxes_of(9, 9, 1), ([], []), ("p",)), True)
        self.refused(200, explains, boxes_of(9, 9, 2), ([], []), ())
        self.assertIs(explains(boxes_of(9, 9, 2), ([], []), (), most=300), True)


class AnyTest(unittest.TestCase):
    def check(self, works, story, every):
        """Asks all of a story that just these lots explain."""
        parts = [part[0] for part in works[2]]
        wanted = plain.least(every)
        hitting = [some for some in plain.subsets(parts) if all(set(some) & set(lot) for lot in every)]
        self.assertEqual(lots(works, story, most=4000), wanted)
        self.assertEqual(cores(works, story, most=4000), plain.least(hitting))
        common = [part for part in parts if wanted and all(part in lot for lot in wanted)]
        some = [part for part in parts if any(part in lot for lot in wanted)]
        self.assertEqual(blamed(works, story, most=4000), (tuple(common), tuple(some)))
        for lot in plain.subsets(parts):
            self.assertIs(explains(works, story, lot, most=4000), lot in every)
        for lot in wanted:
            self.assertTrue(all(set(core) & set(lot) for core in cores(works, story, most=4000)))
            self.assertIsNone(none_paper(works, story, lot=lot, most=4000))
            for lesser in [tuple([one for one in lot if one != part]) for part in lot]:
                paper = none_paper(works, story, lot=lesser, most=4000)
                self.assertIs(shows_none(works, story, paper, lot=lesser), True)

    def test_as_the_document_words_it(self):
        rng = random.Random(191)
        told = []
        while len(told) < 300:
            works = any_taps(rng)
            story = plain.lived_story(rng, works, tuple([part[0] for part in works[2]]), 3)
            if len(told) % 10 == 0:
                story = any_story(rng, works, 2, 3)
            every = plain.explaining(works, story)
            if every is None or (every and every[0] == () and rng.random() < 0.9):
                continue
            self.check(works, story, every)
            told.append(plain.least(every))
        self.assertGreater(len([found for found in told if len(found) > 1]), 20)
        self.assertGreater(len([found for found in told if len({len(lot) for lot in found}) > 1]), 3)
        self.assertGreater(len([found for found in told if not found]), 2)

    def test_works_of_any_kind(self):
        rng = random.Random(192)
        tried = 0
        while tried < 40:
            works = any_works(rng, 2, 3, 3)
            story = any_story(rng, works, 2, 3)
            every = plain.explaining(works, story)
            if every is not None:
                self.check(works, story, every)
                tried += 1

    def test_the_mill(self):
        for signs in ([(1, "hand", "shut")], [(1, "hand", "ajar")], [(2, "rod", 5)], [(1, "rod", 4)], [(2, "eye", 8)]):
            story = (["draw", "wait"], signs)
            self.check(MILL, story, plain.explaining(MILL, story))


if __name__ == "__main__":
    unittest.main()
