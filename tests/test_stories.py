import copy
import random
import unittest

from tests.samples import LEAST, MILL, any_story, any_things, any_works, at_path, paths, replaced, swapped
from worktwin.errors import NoBeat
from worktwin.stories import is_story, told_story, until

STORY = (
    ["draw", "wait", "close"],
    [(3, "rod", 2), (0, "eye", 4), (1, "hand", "wide"), (0, "eye", 4), (0, "eye", 3), (1, "eye", 4), (3, "hand", "shut")],
)
NONE = ([], [])


class IsStoryTest(unittest.TestCase):
    def right(self, *things):
        for thing in things:
            with self.subTest(thing):
                self.assertIs(is_story(MILL, thing), True)

    def wrong(self, *things):
        for thing in things:
            with self.subTest(thing):
                self.assertIs(is_story(MILL, thing), False)

    def test_stories(self):
        self.right(STORY, NONE, (["wait"], []), ([], [(0, "eye", 0)]))
        self.assertIs(is_story(works=MILL, thing=STORY), True)
        self.assertIs(is_story(LEAST, (["wait", "wait"], [])), True)
        self.assertIs(is_story(LEAST, STORY), False)

    def test_whatever_its_size(self):
        self.right((["wait", "draw"] * 200, []), (["wait"] * 9, [(9, "rod", 40)] * 400))
        self.wrong((["wait"] * 399 + ["none"], []), (["wait"] * 9, [(9, "rod", 40)] * 399 + [(10, "rod", 40)]))

    def test_deeds(self):
        for deed in ("none", "", "gate", "shut", "eye", "Wait", "draw ", None, 0, True, (), ("draw",), ["draw"], []):
            self.wrong(([deed], []), (["wait", deed], []), ([deed, "wait"], []))

    def test_beats_of_signs(self):
        for many in range(4):
            self.right((["wait"] * many, [(many, "rod", 1)]))
            self.wrong((["wait"] * many, [(many + 1, "rod", 1)]))
            self.wrong((["wait"] * many, [(0, "rod", 1), (many + 1, "hand", "wide")]))
        self.wrong((["wait"], [(-1, "rod", 1)]), (["wait"], [(True, "rod", 1)]), (["wait"], [(10 ** 30, "rod", 1)]))

    def test_signs_that_are_none(self):
        for sign in ((0, "rod", 41), (0, "hand", "up"), (0, "none", 1), (0, "rod"), (0, "rod", 1, 1), None, 0, (), "rod"):
            self.wrong(([], [sign]), ([], [(0, "rod", 1), sign]), ([], [sign, (0, "rod", 1)]))

    def test_lists_and_tuples(self):
        for path in paths(STORY):
            found = at_path(STORY, path)
            if isinstance(found, list):
                self.wrong(replaced(STORY, path, tuple(found)))
            if isinstance(found, tuple):
                self.wrong(replaced(STORY, path, list(found)))
        self.wrong(swapped(STORY), ((), ()), ([], ()), ((), []), [[], []])

    def test_more_and_fewer_things(self):
        self.wrong((), ([],), ([], [], []), STORY + ([],), STORY[:1], ([], None), (None, []), ("", ""), ("wait", []))

    def test_any_thing_is_told_of_and_not_changed(self):
        for thing in any_things(10):
            ahead = copy.deepcopy(thing)
            none = isinstance(thing, tuple) and thing == ([], [])
            self.assertIs(is_story(MILL, thing), none)
            self.assertEqual(repr(thing), repr(ahead))
        for path in paths(STORY):
            for thing in any_things(11, 30):
                self.assertIn(is_story(MILL, replaced(STORY, path, thing)), (True, False))

    def test_works_of_lists(self):
        handed = swapped(MILL)
        self.assertIs(is_story(handed, STORY), True)
        self.assertIs(is_story(handed, swapped(STORY)), False)
        self.assertEqual(handed, swapped(MILL))

    def test_any_story(self):
        rng = random.Random(91)
        for _ in range(200):
            works = any_works(rng)
            self.assertIs(is_story(works, any_story(rng, works)), True)


class ToldStoryTest(unittest.TestCase):
    def test_signs_rise_each_once(self):
        self.assertEqual(
            told_story(MILL, STORY),
            (
                ["draw", "wait", "close"],
                [(0, "eye", 3), (0, "eye", 4), (1, "eye", 4), (1, "hand", "wide"), (3, "hand", "shut"), (3, "rod", 2)],
            ),
        )
        self.assertEqual(told_story(MILL, NONE), NONE)
        self.assertEqual(told_story(works=MILL, story=(["wait", "draw", "wait"], [])), (["wait", "draw", "wait"], []))

    def test_numbers_rise_as_numbers(self):
        story = (["wait"] * 11, [(10, "rod", 4), (2, "rod", 10), (2, "rod", 4)])
        self.assertEqual(told_story(MILL, story)[1], [(2, "rod", 4), (2, "rod", 10), (10, "rod", 4)])

    def test_lists_for_tuples(self):
        handed, works = swapped(STORY), swapped(MILL)
        self.assertEqual(told_story(works, handed), told_story(MILL, STORY))
        self.assertIs(is_story(MILL, told_story(works, handed)), True)
        self.assertEqual([handed, works], [swapped(STORY), swapped(MILL)])
        mixed = [list(STORY[0]), [list(sign) for sign in STORY[1]]]
        self.assertEqual(told_story(MILL, mixed), told_story(MILL, STORY))

    def test_nothing_is_changed_or_shared(self):
        story = copy.deepcopy(STORY)
        found = told_story(MILL, story)
        self.assertEqual(story, STORY)
        found[0].append("wait")
        found[1].clear()
        self.assertEqual(story, STORY)
        rising = told_story(MILL, STORY)
        again = told_story(MILL, rising)
        self.assertEqual(again, rising)
        self.assertIsNot(again[0], rising[0])
        self.assertIsNot(again[1], rising[1])


class UntilTest(unittest.TestCase):
    def test_at_each_beat(self):
        early = [(0, "eye", 4), (0, "eye", 4), (0, "eye", 3)]
        first = [(0, "eye", 4), (1, "hand", "wide"), (0, "eye", 4), (0, "eye", 3), (1, "eye", 4)]
        self.assertEqual(until(MILL, STORY, 0), ([], early))
        self.assertEqual(until(MILL, STORY, 1), (["draw"], first))
        self.assertEqual(until(MILL, STORY, 2), (["draw", "wait"], first))
        self.assertEqual(until(works=MILL, story=STORY, beat=3), STORY)
        self.assertEqual(until(MILL, NONE, 0), NONE)

    def test_no_beat(self):
        for story, beats in ((STORY, (-1, -3, 4, 5, 10 ** 5000, -(10 ** 5000))), (NONE, (-1, 1, 2))):
            for beat in beats:
                with self.assertRaises(NoBeat) as caught:
                    until(MILL, story, beat)
                self.assertEqual(caught.exception.what, beat)

    def test_lists_for_tuples(self):
        handed, works = swapped(STORY), swapped(MILL)
        for beat in range(4):
            self.assertEqual(until(works, handed, beat), until(MILL, STORY, beat))
            self.assertIs(is_story(MILL, until(works, handed, beat)), True)
        self.assertEqual([handed, works], [swapped(STORY), swapped(MILL)])

    def test_nothing_is_changed_or_shared(self):
        story = copy.deepcopy(STORY)
        found = until(MILL, story, 3)
        found[0].clear()
        found[1].clear()
        self.assertEqual(story, STORY)
        self.assertEqual(until(MILL, story, 3), STORY)


if __name__ == "__main__":
    unittest.main()
