import copy
import random
import unittest

from tests import plain
from tests.samples import FILL, MILL, TUB, any_claim, any_lot, any_story, any_works, boxes_of, some_of, swapped
from worktwin.allowed import allowed
from worktwin.errors import NoBeat, NoRun, TooMany
from worktwin.sure import bounds, failing

NO = ("any", ())
YES = ("all", ())


def below(level):
    """The claim that the tub holds at most so much."""
    return ("sum", ("tub",), 0, level)


class FailingTest(unittest.TestCase):
    def test_known_by_hand(self):
        # Allowed are 1 to 3, then 2 to 5, then the same.
        story = (FILL, [])
        self.assertIsNone(failing(TUB, story, 0, below(3)))
        self.assertEqual(failing(TUB, story, 0, below(2)), (("in", "shut"), (3,)))
        self.assertEqual(failing(TUB, story, 1, below(4)), (("in", "run"), (5,)))
        self.assertIsNone(failing(TUB, story, 1, below(5)))
        self.assertIsNone(failing(TUB, story, 2, ("sum", ("tub",), 2, 5)))
        self.assertEqual(failing(TUB, story, 2, ("sum", ("tub",), 3, 5)), (("in", "shut"), (2,)))
        self.assertIsNone(failing(TUB, story, 1, ("mode", "tap", ("run",))))
        self.assertEqual(failing(TUB, story, 2, ("mode", "tap", ("run",))), (("in", "shut"), (2,)))

    def test_the_least_of_several(self):
        self.assertEqual(failing(TUB, (FILL, []), 1, NO), (("in", "run"), (2,)))
        self.assertEqual(failing(TUB, (FILL, []), 1, below(2)), (("in", "run"), (3,)))
        self.assertEqual(failing(TUB, (FILL, []), 2, NO, lot=("plug",)), (("in", "shut"), (2,)))
        claim = ("mode", "plug", ("in",))
        self.assertEqual(failing(TUB, (FILL, []), 2, claim, lot=("plug",)), (("out", "shut"), (0,)))
        self.assertEqual(failing(TUB, (FILL, []), 1, ("sum", ("tub",), 2, 3), lot=("plug",)), (("in", "run"), (4,)))
        self.assertIsNone(failing(TUB, (FILL, []), 2, claim, lot=("tap",)))

    def test_what_later_signs_make_sure(self):
        story = (FILL, [(2, "rod", 2)])
        self.assertIsNone(failing(TUB, story, 0, ("sum", ("tub",), 1, 1)))
        self.assertIsNone(failing(TUB, story, 1, ("sum", ("tub",), 2, 2)))

    def test_all_and_any_of_none(self):
        for beat in range(3):
            self.assertIsNone(failing(TUB, (FILL, []), beat, YES))
            self.assertIsNotNone(failing(TUB, (FILL, []), beat, NO))
        self.assertIsNone(failing(TUB, ([], []), 0, YES))
        self.assertEqual(failing(TUB, ([], []), 0, NO), (("in", "shut"), (1,)))


class BoundsTest(unittest.TestCase):
    def test_known_by_hand(self):
        story = (FILL, [])
        self.assertEqual([bounds(TUB, story, beat, ("tub",)) for beat in range(3)], [(1, 3), (2, 5), (2, 5)])
        story = (FILL, [(2, "rod", 4)])
        self.assertEqual([bounds(TUB, story, beat, ("tub",)) for beat in range(3)], [(2, 3), (4, 4), (4, 4)])
        self.assertEqual(bounds(TUB, ([], []), 0, ["tub"]), (1, 3))

    def test_by_lots(self):
        found = [bounds(TUB, (FILL, []), beat, ("tub",), lot=("plug",)) for beat in range(3)]
        self.assertEqual(found, [(1, 3), (1, 5), (0, 5)])
        self.assertEqual(bounds(TUB, (FILL, []), 1, ("tub",), lot=("tap",)), (1, 5))

    def test_sums_of_some_in_any_order(self):
        # Pond holds 3 or 4; then 1 to 3 go over to the race, 0 to 2 from there to without.
        story = (["draw"], [])
        self.assertEqual(bounds(MILL, story, 0, ("pond",)), (3, 4))
        self.assertEqual(bounds(MILL, story, 0, ("race", "pond")), (3, 4))
        self.assertEqual(bounds(MILL, story, 0, ("race",)), (0, 0))
        self.assertEqual(bounds(MILL, story, 1, ("pond",)), (0, 3))
        self.assertEqual(bounds(MILL, story, 1, ("race",)), (0, 3))
        # The bounds of the sum are no sums of bounds.
        for some in (("pond", "race"), ("race", "pond"), ["pond", "race"], ["race", "pond"]):
            self.assertEqual(bounds(MILL, story, 1, some), (1, 4))

    def test_three_boxes(self):
        works = boxes_of(3, 2, 1)
        for some, high in ((("a",), 3), (("c",), 1), (("c", "a"), 4), (("c", "b", "a"), 6), (("b", "a", "c"), 6)):
            self.assertEqual(bounds(works, (["wait"], []), 1, some), (0, high))

    def test_a_pair(self):
        self.assertIs(type(bounds(TUB, (FILL, []), 0, ["tub"])), tuple)


class BothTest(unittest.TestCase):
    def refused(self, error, what, works, story, beat, **more):
        box = works[1][0][0]
        for ask, asked in ((failing, YES), (failing, NO), (bounds, (box,)), (bounds, [box])):
            with self.assertRaises(error) as caught:
                ask(works, story, beat, asked, **more)
            self.assertEqual(caught.exception.what, what)
            self.assertIs(type(caught.exception.what), type(what))

    def test_no_beat(self):
        for story, beats in (((FILL, []), (-1, -3, 3, 10 ** 30)), (([], []), (-1, 1))):
            for beat in beats:
                self.refused(NoBeat, beat, TUB, story, beat)

    def test_too_many(self):
        # 3, 4 and 1 are open.
        for beat in range(3):
            self.refused(TooMany, 3, TUB, (FILL, [(2, "rod", 2)]), beat, most=3)
            self.assertEqual(bounds(TUB, (FILL, [(2, "rod", 2)]), beat, ("tub",), most=4), ((1, 1), (2, 2), (2, 2))[beat])
            self.assertIsNone(failing(TUB, (FILL, [(2, "rod", 2)]), beat, YES, most=4))
            self.refused(TooMany, 9, TUB, (FILL, []), beat, most=9, lot=("plug",))
        self.refused(TooMany, 200, boxes_of(9, 9, 2), ([], []), 0)
        self.assertEqual(bounds(boxes_of(9, 9, 1), ([], []), 0, ("b", "c")), (0, 10))
        self.assertEqual(bounds(boxes_of(9, 9, 2), ([], []), 0, ("b", "c"), most=300), (0, 11))

    def test_no_run(self):
        for sign in ((0, "rod", 4), (1, "rod", 6), (2, "rod", 1), (2, "knob", "run")):
            for beat in range(3):
                self.refused(NoRun, (), TUB, (FILL, [sign]), beat)
                self.refused(NoRun, (), TUB, (FILL, [sign]), beat, lot=[])
        self.refused(NoRun, ("plug",), TUB, (FILL, [(1, "knob", "shut")]), 0, lot=("plug",))
        self.refused(NoRun, ("plug", "tap"), TUB, (FILL, [(2, "rod", 9)]), 0, lot=["plug", "tap"])
        self.assertEqual(bounds(TUB, (FILL, [(1, "knob", "shut")]), 0, ("tub",), lot=["tap"]), (1, 3))

    def test_of_two_due_the_one_told_first(self):
        self.refused(NoBeat, 3, TUB, (FILL, []), 3, most=1)
        self.refused(NoBeat, -1, TUB, (FILL, [(0, "rod", 9)]), -1)
        self.refused(NoBeat, 4, TUB, (FILL, [(2, "rod", 9)]), 4, most=2)
        self.refused(TooMany, 2, TUB, (FILL, [(2, "rod", 9)]), 0, most=2)
        self.refused(TooMany, 3, TUB, (FILL, [(2, "rod", 9)]), 2, most=3)
        self.refused(NoRun, (), TUB, (FILL, [(2, "rod", 9)]), 2, most=4)

    def test_lists_for_tuples_and_names(self):
        story, claim = (["draw", "wait"], [(1, "eye", 4)]), ("not", ("any", (("sum", ("pond", "race"), 0, 3), ("mode", "weir", ("up",)))))
        for beat in range(3):
            handed = [swapped(MILL), swapped(story), swapped(claim), ["race", "pond"], ["gate"]]
            ahead = copy.deepcopy(handed)
            self.assertEqual(
                failing(handed[0], handed[1], beat, handed[2], lot=handed[4]),
                failing(works=MILL, story=story, beat=beat, claim=claim, lot=("gate",), most=200),
            )
            self.assertEqual(
                bounds(handed[0], handed[1], beat, handed[3], lot=handed[4]),
                bounds(works=MILL, story=story, beat=beat, some=("pond", "race"), lot=("gate",), most=200),
            )
            self.assertEqual(handed, ahead)
        for ask, asked in ((failing, YES), (bounds, ("tub",))):
            with self.assertRaises(TypeError):
                ask(TUB, (FILL, []), 0, asked, ())

    def test_as_the_document_words_it(self):
        rng = random.Random(141)
        tried = 0
        told = []
        while tried < 150:
            works = any_works(rng, 3, 2, 4)
            lot = any_lot(rng, works)
            story = plain.lived_story(rng, works, lot) if tried % 5 else any_story(rng, works)
            rows = plain.allowed(works, story, lot)
            if rows is None or not rows[0]:
                continue
            tried += 1
            self.assertEqual(allowed(works, story, lot=lot, most=4000), rows)
            some = list(some_of(rng, [box[0] for box in works[1]], 1))
            rng.shuffle(some)
            claim = any_claim(rng, works)
            for beat, row in enumerate(rows):
                wrong = [stand for stand in row if not plain.holds(works, claim, stand)]
                told.append(len(wrong))
                found = failing(works, story, beat, claim, lot=lot, most=4000)
                self.assertEqual(found, min(wrong) if wrong else None)
                sums = [sum(level for box, level in zip(works[1], stand[1]) if box[0] in some) for stand in row]
                self.assertEqual(bounds(works, story, beat, some, lot=lot, most=4000), (min(sums), max(sums)))
                self.assertEqual(failing(works, story, beat, claim, lot=lot, most=4000), found)
        self.assertGreater(min(told.count(0), len([many for many in told if many > 1])), 20)


if __name__ == "__main__":
    unittest.main()
