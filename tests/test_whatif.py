import copy
import random
import unittest

from tests import plain
from tests.samples import FILL, LEAST, MILL, TUB, any_deed, any_lot, any_story, any_works, boxes_of, replaced, some_of, swapped
from worktwin.allowed import allowed
from worktwin.errors import NoDeed, NoRun, TooMany
from worktwin.whatif import what_bounds, what_if


def stands(plug, tap, *levels):
    return [((plug, tap), (level,)) for level in levels]


class WhatIfTest(unittest.TestCase):
    def test_no_deeds_to_come(self):
        self.assertEqual(what_if(TUB, (FILL, []), []), [])
        self.assertEqual(what_if(TUB, ([], []), ()), [])

    def test_one_deed(self):
        self.assertEqual(what_if(TUB, ([], []), ["fill"]), [stands("in", "run", 2, 3, 4, 5)])
        self.assertEqual(what_if(TUB, ([], []), ["wait"]), [stands("in", "shut", 1, 2, 3)])
        self.assertEqual(what_if(TUB, (["fill"], []), ["stop"]), [stands("in", "shut", 2, 3, 4, 5)])

    def test_four_deeds(self):
        self.assertEqual(
            what_if(TUB, ([], [(0, "rod", 1)]), ["fill", "wait", "stop", "fill"]),
            [
                stands("in", "run", 2, 3), stands("in", "run", 3, 4, 5), stands("in", "shut", 3, 4, 5),
                stands("in", "run", 4, 5, 6),
            ],
        )

    def test_a_story_with_late_signs(self):
        # The tub must have held 1, which no sign up to that beat says.
        story = (FILL, [(2, "rod", 2)])
        self.assertEqual(what_if(TUB, story, ["fill"]), [stands("in", "run", 3, 4)])
        story = (FILL, [(1, "view", 5), (0, "view", 1)])
        self.assertEqual(what_if(TUB, story, ["wait", "fill"]), [stands("in", "shut", 4), stands("in", "run", 5, 6)])

    def test_by_lots(self):
        story = ([], [(0, "rod", 1)])
        self.assertEqual(what_if(TUB, story, ["fill"], lot=("tap",)), [stands("in", "run", 2, 3) + stands("in", "shut", 1)])
        self.assertEqual(
            what_if(TUB, story, ["wait", "wait"], lot=("plug",)),
            [
                stands("in", "shut", 1) + stands("out", "shut", 0, 1),
                stands("in", "shut", 1) + stands("out", "shut", 0, 1),
            ],
        )

    def test_told_lists_are_the_askers_own(self):
        found = what_if(TUB, ([], []), ["wait", "wait", "wait"])
        self.assertEqual(len({id(row) for row in found}), 3)
        again = copy.deepcopy(found)
        found[0].clear()
        self.assertEqual(found[1:], again[1:])
        found.clear()
        self.assertEqual(what_if(TUB, ([], []), ["wait", "wait", "wait"]), again)


class WhatBoundsTest(unittest.TestCase):
    def test_known_by_hand(self):
        self.assertEqual(what_bounds(TUB, ([], []), [], ("tub",)), [])
        self.assertEqual(what_bounds(TUB, ([], []), ["fill", "wait"], ("tub",)), [(2, 5), (3, 6)])
        self.assertEqual(what_bounds(TUB, (FILL, [(2, "rod", 2)]), ["wait", "fill"], ["tub"]), [(2, 2), (3, 4)])
        self.assertEqual(what_bounds(TUB, ([], []), ["wait", "wait"], ("tub",), lot=("plug",)), [(0, 3), (0, 3)])

    def test_some_in_any_order(self):
        for some in (("pond", "race"), ("race", "pond"), ["pond", "race"], ["race", "pond"]):
            self.assertEqual(what_bounds(MILL, ([], []), ["draw"], some), [(1, 4)])
        self.assertEqual(what_bounds(MILL, ([], []), ["draw"], ("pond",)), [(0, 3)])
        self.assertEqual(what_bounds(MILL, ([], []), ["draw"], ("race",)), [(0, 3)])

    def test_pairs(self):
        found = what_bounds(TUB, ([], []), ["fill", "wait"], ("tub",))
        self.assertIs(type(found), list)
        self.assertTrue(all(type(pair) is tuple for pair in found))
        found.clear()
        self.assertEqual(len(what_bounds(TUB, ([], []), ["fill", "wait"], ("tub",))), 2)


class BothTest(unittest.TestCase):
    def refused(self, error, what, works, story, deeds, **more):
        box = works[1][0][0]
        for ask, asked in ((what_if, ()), (what_bounds, ((box,),))):
            with self.assertRaises(error) as caught:
                ask(works, story, deeds, *asked, **more)
            self.assertEqual(caught.exception.what, what)
            self.assertIs(type(caught.exception.what), type(what))

    def test_no_deed_of_the_first_that_is_none(self):
        for deed in ("", "none", "tap", "tub", "Fill", "fill ", "wait\n", "f" * 5000):
            self.refused(NoDeed, deed, TUB, (FILL, []), [deed])
            self.refused(NoDeed, deed, TUB, (FILL, []), ["fill", deed])
            self.refused(NoDeed, deed, TUB, ([], []), ["wait", deed, "other", "fill"])
            self.refused(NoDeed, deed, TUB, ([], []), (deed, "other"))
        self.refused(NoDeed, "fill", LEAST, ([], []), ["fill"])

    def test_no_deed_goes_ahead_of_the_others(self):
        self.refused(NoDeed, "none", TUB, (FILL, []), ["fill", "none"], most=1)
        self.refused(NoDeed, "none", TUB, (FILL, [(0, "rod", 9)]), ["none"])
        self.refused(NoDeed, "none", TUB, (FILL, [(2, "rod", 9)]), ["none"], most=1)

    def test_too_many_of_the_longer_story(self):
        # 1 is open, then 2, then 3.
        story = ([], [(0, "rod", 1)])
        self.assertEqual(len(what_if(TUB, story, ["fill", "wait"], most=3)), 2)
        self.assertEqual(what_bounds(TUB, story, ["fill"], ("tub",), most=2), [(2, 3)])
        self.refused(TooMany, 2, TUB, story, ["fill", "wait"], most=2)
        self.refused(TooMany, 1, TUB, story, ["fill"], most=1)
        self.assertEqual(what_if(TUB, story, [], most=1), [])
        # 3, 4 and 1 are open ahead of all that comes.
        self.refused(TooMany, 3, TUB, (FILL, [(2, "rod", 2)]), [], most=3)
        self.refused(TooMany, 3, TUB, (FILL, [(2, "rod", 2)]), ["wait"], most=3)
        self.assertEqual(len(what_if(TUB, (FILL, [(2, "rod", 2)]), ["wait"], most=4)), 1)
        self.refused(TooMany, 2, TUB, story, ["wait"], most=2, lot=("plug",))

    def test_most_left_out_is_200(self):
        self.assertEqual(what_bounds(boxes_of(9, 9, 1), ([], []), ["wait"], ("c", "a")), [(0, 10)])
        self.refused(TooMany, 200, boxes_of(9, 9, 2), ([], []), [])
        works = replaced(boxes_of(9, 9, 0), (3,), (("", "c", "p", "m", 0, 2),))
        self.refused(TooMany, 200, works, ([], []), ["wait"])
        self.assertEqual(what_bounds(works, ([], []), ["wait"], ("c",), most=300), [(0, 2)])

    def test_no_run(self):
        for sign in ((0, "rod", 4), (1, "rod", 6), (2, "rod", 1), (2, "knob", "run")):
            for deeds in ([], ["wait"], ["fill", "stop", "fill", "wait"]):
                self.refused(NoRun, (), TUB, (FILL, [sign]), deeds)
                self.refused(NoRun, (), TUB, (FILL, [sign]), deeds, lot=[])
        self.refused(NoRun, ("plug",), TUB, (FILL, [(1, "knob", "shut")]), [], lot=["plug"])
        self.refused(NoRun, ("plug", "tap"), TUB, (FILL, [(1, "rod", 6)]), ["fill"], lot=("plug", "tap"))

    def test_too_many_goes_ahead_of_no_run(self):
        self.refused(TooMany, 3, TUB, (FILL, [(2, "rod", 9)]), [], most=3)
        self.refused(NoRun, (), TUB, (FILL, [(2, "rod", 9)]), [], most=4)

    def test_lists_for_tuples_and_names(self):
        story, deeds = (["draw"], [(1, "eye", 4)]), ["wait", "close"]
        handed = [swapped(MILL), swapped(story), tuple(deeds), ["gate"]]
        ahead = copy.deepcopy(handed)
        self.assertEqual(
            what_if(handed[0], handed[1], handed[2], lot=handed[3]),
            what_if(works=MILL, story=story, deeds=deeds, lot=("gate",), most=200),
        )
        self.assertEqual(
            what_bounds(handed[0], handed[1], handed[2], ["race", "pond"], lot=handed[3]),
            what_bounds(works=MILL, story=story, deeds=deeds, some=("pond", "race"), lot=("gate",), most=200),
        )
        self.assertEqual(handed, ahead)
        before = copy.deepcopy(story)
        what_if(MILL, story, deeds)
        self.assertEqual((story, deeds), (before, ["wait", "close"]))
        with self.assertRaises(TypeError):
            what_if(TUB, (FILL, []), [], ())
        with self.assertRaises(TypeError):
            what_bounds(TUB, (FILL, []), [], ("tub",), ())

    def test_as_the_document_words_it(self):
        rng = random.Random(181)
        tried = 0
        while tried < 80:
            works = any_works(rng, 3, 2, 4)
            lot = any_lot(rng, works)
            story = plain.lived_story(rng, works, lot) if tried % 3 else any_story(rng, works)
            deeds = [any_deed(rng, works) for _ in range(rng.randint(0, 3))]
            every = plain.runs(works, (story[0] + deeds, story[1]), lot)
            if not every:
                continue
            tried += 1
            rows = [sorted({run[beat] for run in every}) for beat in range(len(story[0]) + 1, len(every[0]))]
            self.assertEqual(what_if(works, story, deeds, lot=lot, most=4000), rows)
            self.assertEqual(rows, allowed(works, (story[0] + deeds, story[1]), lot=lot, most=4000)[len(story[0]) + 1:])
            some = list(some_of(rng, [box[0] for box in works[1]], 1))
            rng.shuffle(some)
            sums = [[plain.sum_of(works, some, stand) for stand in row] for row in rows]
            self.assertEqual(what_bounds(works, story, deeds, some, lot=lot, most=4000), [(min(row), max(row)) for row in sums])


if __name__ == "__main__":
    unittest.main()
