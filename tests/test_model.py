import copy
import random
import unittest

from tests import plain
from tests.samples import FILL, LEAST, MILL, TUB, any_lot, any_story, any_works, boxes_of, swapped
from worktwin.allowed import allowed
from worktwin.errors import NoRun, TooMany
from worktwin.model import corrected, model

# Two boxes that one tap fills at once.
TWO = (
    "two",
    (("a", 3, 0, 0), ("b", 3, 0, 0)),
    (("tap", ("off", "on"), ()),),
    (("", "a", "tap", "on", 0, 2), ("", "b", "tap", "on", 0, 2)),
    (("go", (("tap", "on"),)),),
    (("sum", "sum", ("a", "b"), 0),),
)


def stands(tap, *levels):
    return [(("in", tap), (level,)) for level in levels]


def full(low, off="off"):
    """A drop d that stays, the tap on, only where a and b are full; a begins at low or more, b at any level."""
    return (
        "full",
        (("a", 9, low, 9), ("b", 9, 0, 9), ("d", 1, 1, 1)),
        (("tap", (off, "on"), ()),),
        (("d", "a", "tap", "on", 1, 1), ("d", "b", "tap", "on", 1, 1)),
        (("go", (("tap", "on"),)),),
        (("dot", "sum", ("d",), 0),),
    )


class ModelTest(unittest.TestCase):
    def known(self, works, story, wanted, turned, **more):
        with self.subTest(story):
            self.assertEqual(model(works, story, **more), wanted)
            self.assertEqual(corrected(works, story, **more), turned)

    def test_nothing_corrected(self):
        self.known(TUB, (FILL, []), stands("shut", 1) + stands("run", 2) + stands("shut", 2), [])
        self.known(TUB, (["fill", "fill"], []), stands("shut", 1) + stands("run", 2, 3), [])
        self.known(TUB, (["wait"], [(0, "rod", 3)]), stands("shut", 3, 3), [])
        self.known(TUB, (["fill"], [(1, "rod", 2)]), stands("shut", 1) + stands("run", 2), [])

    def test_corrected_once(self):
        self.known(TUB, (FILL, [(1, "rod", 4)]), stands("shut", 2) + stands("run", 4) + stands("shut", 4), [1])
        self.known(TUB, (["fill", "fill"], [(2, "rod", 5), (0, "rod", 1)]), stands("shut", 1) + stands("run", 3, 5), [1, 2])
        self.known(
            TUB,
            (["wait", "fill"], [(0, "rod", 1), (2, "rod", 3)]),
            stands("shut", 1, 1) + stands("run", 3),
            [2],
        )

    def test_corrected_twice(self):
        signs = [(0, "rod", 1), (1, "rod", 3), (2, "rod", 5)]
        self.known(TUB, (["fill", "fill"], signs), stands("shut", 1) + stands("run", 3, 5), [1, 2])
        signs = [(0, "rod", 1), (1, "rod", 3), (2, "rod", 4), (3, "rod", 6)]
        self.known(TUB, (["fill", "fill", "fill"], signs), stands("shut", 1) + stands("run", 3, 4, 6), [1, 3])

    def test_of_several_as_near_the_least(self):
        self.known(TWO, (["go"], [(1, "sum", 3)]), [(("off",), (0, 0)), (("on",), (1, 2))], [1])
        self.known(TWO, (["go"], [(1, "sum", 1)]), [(("off",), (0, 0)), (("on",), (0, 1))], [1])
        self.known(TWO, (["go"], [(1, "sum", 2)]), [(("off",), (0, 0)), (("on",), (1, 1))], [])
        self.known(TWO, (["go"], [(1, "sum", 4)]), [(("off",), (0, 0)), (("on",), (2, 2))], [1])

    def test_another_mode_against_levels_far_off(self):
        story = (["go"], [(1, "dot", 1)])
        # Either the tap stays off, or all is full. A mode is as far as ten levels.
        for low, wanted in (
            (9, (("on",), (9, 9, 1))),
            (8, (("on",), (9, 9, 1))),
            (7, (("off",), (8, 0, 1))),
            (6, (("off",), (7, 0, 1))),
            (0, (("off",), (1, 0, 1))),
        ):
            self.known(full(low), story, [(("off",), (low, 0, 1)), wanted], [1], lot=("tap",))
        # As far both, at seven, whichever is less.
        self.known(full(7, "shut"), story, [(("shut",), (7, 0, 1)), (("on",), (9, 9, 1))], [1], lot=("tap",))
        self.known(full(6, "shut"), story, [(("shut",), (6, 0, 1)), (("shut",), (7, 0, 1))], [1], lot=("tap",))

    def test_late_signs(self):
        self.known(TUB, (["fill", "wait"], [(2, "rod", 6)]), stands("shut", 2) + stands("run", 4, 6), [1, 2])
        self.known(full(0), (["go"], [(1, "dot", 1)]), [(("off",), (9, 9, 1)), (("on",), (9, 9, 1))], [])

    def test_it_need_not_be_a_run(self):
        # What the tap that stays off leaves as it was isn't what was at the beat ahead.
        story = (["go"], [(1, "dot", 1)])
        found = model(full(7), story, lot=("tap",))
        self.assertEqual(found, [(("off",), (7, 0, 1)), (("off",), (8, 0, 1))])
        self.assertFalse(plain.is_run(full(7), story, found, ("tap",)))

    def test_no_deeds(self):
        self.known(TUB, ([], []), stands("shut", 1), [])
        self.known(TUB, ([], [(0, "view", 3)]), stands("shut", 2), [])
        self.known(LEAST, ([], []), [(("m",), (0,))], [])

    def test_by_lots(self):
        story = (FILL, [(1, "knob", "shut")])
        # The tap stayed shut, but of what is allowed 2 is the nearest to what was to flow.
        self.known(TUB, story, stands("shut", 1, 2, 2), [1], lot=("tap",))
        self.known(TUB, story, stands("shut", 1, 2, 2), [1], lot=["plug", "tap"])
        # The lot's parts may act as they should, and are expected to.
        self.known(TUB, (FILL, []), stands("shut", 1) + stands("run", 2) + stands("shut", 2), [], lot=("plug", "tap"))

    def test_kinds_and_own_lists(self):
        for ask in (model, corrected):
            found = ask(TUB, (FILL, [(1, "rod", 4)]))
            self.assertIs(type(found), list)
            again = copy.deepcopy(found)
            found.clear()
            self.assertEqual(ask(TUB, (FILL, [(1, "rod", 4)])), again)

    def test_lists_for_tuples_and_names(self):
        story = (["draw", "wait"], [(1, "eye", 4), (2, "rod", 1)])
        handed = [swapped(MILL), swapped(story), ["gate"]]
        ahead = copy.deepcopy(handed)
        for ask in (model, corrected):
            found = ask(handed[0], handed[1], lot=handed[2])
            self.assertEqual(repr(found), repr(ask(works=MILL, story=story, lot=("gate",), most=200)))
            with self.assertRaises(TypeError):
                ask(MILL, story, ())
        self.assertEqual(handed, ahead)

    def test_as_the_document_words_it(self):
        rng = random.Random(231)
        turned, tried = 0, 0
        while tried < 100:
            works = any_works(rng, 3, 2, 4)
            lot = any_lot(rng, works)
            story = plain.lived_story(rng, works, lot, 8) if tried % 4 else any_story(rng, works)
            rows = plain.allowed(works, story, lot)
            if rows is None or not rows[0]:
                continue
            wanted = plain.model(works, story, rows)
            if not wanted[1] and rng.random() < 0.8:
                continue
            tried += 1
            self.assertEqual((model(works, story, lot=lot, most=4000), corrected(works, story, lot=lot, most=4000)), wanted)
            self.assertTrue(all(stand in row for stand, row in zip(wanted[0], allowed(works, story, lot=lot, most=4000))))
            turned += len(wanted[1]) > 0
        self.assertGreater(turned, 30)


class RefusedTest(unittest.TestCase):
    def refused(self, error, what, works, story, **more):
        for ask in (model, corrected):
            with self.assertRaises(error) as caught:
                ask(works, story, **more)
            self.assertEqual(caught.exception.what, what)
            self.assertIs(type(caught.exception.what), type(what))

    def test_too_many(self):
        # 3, 4 and 4 are open.
        self.refused(TooMany, 3, TUB, (FILL, []), most=3)
        self.refused(TooMany, 9, TUB, (FILL, []), lot=("plug",), most=9)
        self.assertEqual(len(model(TUB, (FILL, []), most=4)), 3)
        self.refused(TooMany, 200, boxes_of(9, 9, 2), ([], []))
        self.assertEqual(corrected(boxes_of(9, 9, 1), ([], [])), [])
        self.assertEqual(corrected(boxes_of(9, 9, 2), ([], []), most=300), [])

    def test_no_run(self):
        for sign in ((0, "rod", 4), (1, "rod", 6), (2, "rod", 1), (2, "knob", "run")):
            self.refused(NoRun, (), TUB, (FILL, [sign]))
            self.refused(NoRun, (), TUB, (FILL, [sign]), lot=[])
        self.refused(NoRun, ("plug",), TUB, (FILL, [(1, "knob", "shut")]), lot=["plug"])
        self.refused(NoRun, ("plug", "tap"), TUB, (FILL, [(1, "rod", 6)]), lot=("plug", "tap"))

    def test_too_many_goes_ahead_of_no_run(self):
        self.refused(TooMany, 3, TUB, (FILL, [(2, "rod", 9)]), most=3)
        self.refused(NoRun, (), TUB, (FILL, [(2, "rod", 9)]), most=4)
        self.refused(NoRun, (), TUB, (FILL, [(0, "rod", 9)]), most=1)


if __name__ == "__main__":
    unittest.main()
