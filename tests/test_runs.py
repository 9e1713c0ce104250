import copy
import random
import unittest

from tests import plain
from tests.samples import FILL, LEAST, MILL, TUB
from tests.samples import altered, any_lot, any_story, any_things, any_works, boxes_of, replaced, retold, swapped
from worktwin.allowed import allowed, opened
from worktwin.errors import NoBeat, TooMany
from worktwin.runs import run_with, shows_run
from worktwin.stands import is_stand


def run(*levels):
    """The stands of the tub at the beats of FILL, or of no deeds, by these levels."""
    taps = ("shut", "run", "shut")
    return [(("in", tap), (level,)) for tap, level in zip(taps, levels)]


class RunWithTest(unittest.TestCase):
    def refused(self, error, what, *arguments, **more):
        with self.assertRaises(error) as caught:
            run_with(*arguments, **more)
        self.assertEqual(caught.exception.what, what)

    def test_the_only_run(self):
        story = (FILL, [(2, "rod", 2)])
        for beat, stand in enumerate(run(1, 2, 2)):
            self.assertEqual(run_with(TUB, story, beat, stand), run(1, 2, 2))
        story = (["fill", "fill"], [(0, "rod", 1), (2, "rod", 3)])
        found = [(("in", "shut"), (1,)), (("in", "run"), (2,)), (("in", "run"), (3,))]
        for beat, stand in enumerate(found):
            self.assertEqual(run_with(TUB, story, beat, stand), found)

    def test_the_stand_is_at_its_beat(self):
        for level in (2, 3, 4, 5):
            stand = (("in", "run"), (level,))
            self.assertEqual(run_with(TUB, (FILL, []), 1, stand)[1], stand)
            self.assertIsNone(run_with(TUB, (FILL, []), 2, stand))
        self.assertIn(run_with(TUB, (FILL, []), 2, (("in", "shut"), (4,))), (run(2, 4, 4), run(3, 4, 4)))

    def test_open_but_not_allowed(self):
        story = (FILL, [(2, "rod", 2)])
        for level in (3, 4, 5):
            self.assertIn((("in", "run"), (level,)), opened(TUB, story)[1])
            self.assertIsNone(run_with(TUB, story, 1, (("in", "run"), (level,))))
        for level in (2, 3):
            self.assertIsNone(run_with(TUB, story, 0, (("in", "shut"), (level,))))

    def test_no_run_at_all(self):
        for stand in plain.all_stands(TUB):
            for beat in range(3):
                self.assertIsNone(run_with(TUB, (FILL, [(0, "rod", 1), (2, "rod", 6)]), beat, stand))

    def test_no_deeds(self):
        for stand in plain.all_stands(TUB):
            found = run_with(TUB, ([], []), 0, stand)
            self.assertEqual(found, [stand] if stand in run(1) + run(2) + run(3) else None)
        self.assertEqual(run_with(TUB, ([], [(0, "rod", 2)]), 0, run(2)[0]), run(2))
        self.assertIsNone(run_with(TUB, ([], [(0, "rod", 2)]), 0, run(1)[0]))

    def test_by_lots(self):
        story = (FILL, [(2, "rod", 0)])
        found = [(("in", "shut"), (1,)), (("out", "run"), (1,)), (("out", "shut"), (0,))]
        for beat, stand in enumerate(found):
            self.assertIsNone(run_with(TUB, story, beat, stand))
            self.assertIsNone(run_with(TUB, story, beat, stand, lot=("tap",)))
            self.assertEqual(run_with(TUB, story, beat, stand, lot=("plug",)), found)
            self.assertEqual(run_with(TUB, story, beat, stand, lot=["plug"]), found)

    def test_no_beat(self):
        for story, beats in (((FILL, []), (-1, -3, 3, 4, 10 ** 30)), (([], []), (-1, 1)), ((FILL, [(0, "rod", 9)]), (3,))):
            for beat in beats:
                self.refused(NoBeat, beat, TUB, story, beat, run(1)[0])

    def test_no_beat_goes_ahead_of_too_many(self):
        self.refused(NoBeat, 3, TUB, (FILL, []), 3, run(1)[0], most=1)
        self.refused(NoBeat, -1, TUB, (FILL, []), -1, run(1)[0], most=1)
        self.refused(TooMany, 1, TUB, (FILL, []), 2, run(1)[0], most=1)

    def test_too_many_at_any_beat(self):
        # 3, 4 and 1 are open, one of each allowed.
        story = (FILL, [(2, "rod", 2)])
        for beat in range(3):
            self.assertEqual(run_with(TUB, story, beat, run(1, 2, 2)[beat], most=4), run(1, 2, 2))
            self.refused(TooMany, 3, TUB, story, beat, run(1, 2, 2)[beat], most=3)
            self.refused(TooMany, 2, TUB, story, beat, run(9, 9, 9)[beat], most=2)
        # By the lot 3, 9 and 10.
        self.refused(TooMany, 9, TUB, (FILL, []), 0, run(1)[0], most=9, lot=("plug",))
        self.assertEqual(run_with(TUB, (FILL, []), 0, run(1)[0], most=10, lot=("plug",))[0], run(1)[0])

    def test_most_left_out_is_200(self):
        stand = (("m",), (0, 0, 0))
        self.assertEqual(run_with(boxes_of(9, 9, 1), (["wait"], []), 1, stand), [stand, stand])
        self.refused(TooMany, 200, boxes_of(9, 9, 2), ([], []), 0, stand)
        self.assertEqual(run_with(boxes_of(9, 9, 2), ([], []), 0, stand, most=300), [stand])

    def test_lists_for_tuples_and_names(self):
        story = (["draw", "wait"], [(1, "eye", 4), (2, "hand", "wide")])
        for beat, row in enumerate(allowed(MILL, story)):
            for stand in row:
                handed = [swapped(MILL), swapped(story), swapped(stand)]
                ahead = copy.deepcopy(handed)
                found = run_with(handed[0], handed[1], beat, handed[2], lot=[], most=200)
                self.assertEqual(found, run_with(works=MILL, story=story, beat=beat, stand=stand, lot=()))
                self.assertIs(shows_run(MILL, story, found), True)
                self.assertEqual(handed, ahead)
        with self.assertRaises(TypeError):
            run_with(TUB, (FILL, []), 0, run(1)[0], ())

    def test_told_lists_are_the_askers_own(self):
        found = run_with(TUB, (FILL, [(2, "rod", 2)]), 0, run(1)[0])
        self.assertIs(type(found), list)
        self.assertTrue(all(is_stand(TUB, stand) for stand in found))
        found.clear()
        self.assertEqual(run_with(TUB, (FILL, [(2, "rod", 2)]), 0, run(1)[0]), run(1, 2, 2))

    def test_each_allowed_stand_has_a_run_and_no_other_one(self):
        rng = random.Random(111)
        tried = 0
        while tried < 60:
            works = any_works(rng, 2, 2, 4)
            lot = any_lot(rng, works)
            story = plain.lived_story(rng, works, lot, 2) if tried % 4 else any_story(rng, works, 3, 3)
            every = plain.runs(works, story, lot)
            if every is None:
                continue
            tried += 1
            told = allowed(works, story, lot=lot, most=4000)
            for beat in range(len(story[0]) + 1):
                for stand in plain.all_stands(works):
                    found = run_with(works, story, beat, stand, lot=lot, most=4000)
                    self.assertEqual(found is not None, stand in told[beat])
                    self.assertEqual(found is not None, any(one[beat] == stand for one in every))
                    if found is not None:
                        self.assertEqual(found[beat], stand)
                        self.assertIn(found, every)
                        self.assertIs(shows_run(works, story, found, lot=lot), True)


class ShowsRunTest(unittest.TestCase):
    def right(self, story, *things, **more):
        for thing in things:
            with self.subTest(thing):
                self.assertIs(shows_run(TUB, story, thing, **more), True)

    def wrong(self, story, *things, **more):
        for thing in things:
            with self.subTest(thing):
                self.assertIs(shows_run(TUB, story, thing, **more), False)

    def test_runs(self):
        self.right((FILL, []), run(1, 2, 2), run(1, 3, 3), run(3, 5, 5))
        self.right(([], []), run(1), run(2), run(3))
        self.assertIs(shows_run(works=TUB, story=(FILL, []), thing=run(1, 2, 2), lot=()), True)

    def test_a_stand_too_few_or_too_many(self):
        self.wrong((FILL, []), run(1, 2), run(1), [], run(1, 2, 2) + run(1, 2, 2)[2:], run(1, 2, 2)[1:])
        self.wrong(([], []), [], run(1) + run(1), run(1, 2))

    def test_a_stand_that_cant_begin(self):
        self.wrong((FILL, []), run(0, 2, 2), run(0, 1, 1), run(4, 5, 5), run(4, 6, 6))
        self.wrong(([], []), run(0), run(4), [(("out", "shut"), (1,))], [(("in", "run"), (1,))])

    def test_a_stand_that_cant_be_behind_the_one_ahead(self):
        self.wrong((FILL, []), run(1, 1, 1), run(1, 4, 4), run(1, 2, 3), run(2, 3, 2))
        self.wrong((FILL, []), replaced(run(1, 2, 2), (1, 0), ("in", "shut")), replaced(run(1, 2, 2), (2, 0), ("in", "run")))
        self.wrong((["wait", "wait"], []), run(1, 2, 2))
        self.right((["wait", "wait"], []), run(1) * 3)

    def test_a_stand_that_a_sign_doesnt_fit(self):
        for beat, level in enumerate((1, 3, 3)):
            for reading in range(8):
                story = (FILL, [(beat, "rod", reading), (1, "knob", "run")])
                self.assertIs(shows_run(TUB, story, run(1, 3, 3)), level == reading)
        self.wrong((FILL, [(1, "knob", "shut")]), run(1, 3, 3))
        self.wrong((FILL, [(1, "rod", 3), (1, "rod", 2)]), run(1, 3, 3))
        self.wrong(([], [(0, "rod", 2)]), run(1))
        self.right(([], [(0, "rod", 2)]), run(2))

    def test_by_lots(self):
        found = [(("in", "shut"), (1,)), (("out", "run"), (1,)), (("out", "shut"), (0,))]
        story = (FILL, [(2, "rod", 0)])
        self.right(story, found, lot=("plug",))
        self.right(story, found, lot=["plug", "tap"])
        self.wrong(story, found, lot=("tap",))
        self.wrong(story, found)
        self.right((FILL, []), run(1, 2, 2), lot=("plug",))
        still = [(("in", "shut"), (2,))] * 3
        self.right((FILL, []), still, lot=("tap",))
        self.wrong((FILL, []), still, lot=("plug",))

    def test_lists_tuples_and_truths(self):
        for found in (run(1, 2, 2), run(1, 3, 3)):
            self.wrong((FILL, []), swapped(found), *retold(found))
        self.assertIs(shows_run(LEAST, ([], []), [(("m",), (0,))]), True)
        self.assertIs(shows_run(LEAST, ([], []), [(("m",), (False,))]), False)

    def test_works_and_stories_of_lists(self):
        works, story, lot = swapped(TUB), swapped((FILL, [(2, "rod", 2)])), ["tap"]
        ahead = copy.deepcopy([works, story, lot])
        self.assertIs(shows_run(works, story, run(1, 2, 2), lot=lot), True)
        self.assertIs(shows_run(works, story, run(1, 3, 3), lot=lot), False)
        self.assertEqual([works, story, lot], ahead)

    def test_any_thing_is_told_of_and_not_changed(self):
        for story in ((FILL, [(1, "rod", 3)]), ([], [])):
            for thing in any_things(112):
                ahead = repr(thing)
                self.assertIs(shows_run(TUB, story, thing), False)
                self.assertEqual(repr(thing), ahead)
        for thing in altered(run(1, 3, 3), 113):
            ahead = repr(thing)
            self.assertIs(shows_run(TUB, (FILL, [(1, "rod", 3)]), thing), repr(run(1, 3, 3)) == ahead)
            self.assertEqual(repr(thing), ahead)

    def test_as_the_document_words_it(self):
        rng = random.Random(114)
        tried = 0
        while tried < 80:
            works = any_works(rng, 2, 2, 3)
            lot = any_lot(rng, works)
            story = plain.lived_story(rng, works, lot, 2)
            every = plain.runs(works, story, lot)
            if every is None or len(every) > 300:
                continue
            tried += 1
            stands = plain.all_stands(works)
            for found in every:
                self.assertIs(shows_run(works, story, found, lot=lot), True)
                other = replaced(found, (rng.randrange(len(found)),), rng.choice(stands))
                self.assertIs(shows_run(works, story, other, lot=lot), other in every)
                lived = plain.lived_run(rng, works, story[0], lot)
                self.assertIs(shows_run(works, story, lived, lot=lot), lived in every)


if __name__ == "__main__":
    unittest.main()
