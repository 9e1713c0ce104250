import copy
import random
import unittest

from tests import plain
from tests.samples import FILL, MILL, TUB
from tests.samples import altered, any_claim, any_lot, any_story, any_things, any_works, boxes_of, replaced, retold, swapped
from worktwin.errors import TooMany
from worktwin.nonepapers import none_paper, shows_none
from worktwin.stands import is_stand

NO = ("any", ())
YES = ("all", ())


def level(low, high):
    """The claim that the tub holds from low to high."""
    return ("sum", ("tub",), low, high)


def stands(tap, *levels):
    return [(("in", tap), (one,)) for one in levels]


def any_where(rng, works, story):
    """A where of at most three claims."""
    return [(rng.randint(0, len(story[0])), any_claim(rng, works)) for _ in range(rng.randint(0, 3))]


class NonePaperTest(unittest.TestCase):
    def none(self, story, many, **more):
        """Asks for a paper of at most so many lists."""
        found = none_paper(TUB, story, **more)
        shown = {name: worth for name, worth in more.items() if name != "most"}
        self.assertIs(shows_none(TUB, story, found, **shown), True)
        self.assertTrue(plain.is_none_paper(TUB, story, found, **shown))
        self.assertLessEqual(len(found), many)

    def test_none_where_there_is_a_run(self):
        for story in ((FILL, []), ([], []), (FILL, [(2, "rod", 2)]), ([], [(0, "rod", 3)])):
            self.assertIsNone(none_paper(TUB, story))
            self.assertIsNone(none_paper(TUB, story, lot=(), where=(), most=200))
            self.assertIsNone(none_paper(TUB, story, lot=("plug",), where=[(0, YES)]))

    def test_a_story_that_parts_at_the_first_beat(self):
        self.assertEqual(none_paper(TUB, (FILL, [(0, "rod", 4)])), [[]])
        self.assertEqual(none_paper(TUB, ([], [(0, "rod", 4)])), [[]])
        self.none((FILL, [(0, "rod", 1), (0, "rod", 2), (2, "rod", 2)]), 1)

    def test_a_story_that_parts_in_the_midst(self):
        self.none((FILL, [(1, "rod", 6)]), 2)
        self.none((FILL, [(1, "knob", "shut")]), 2)
        self.none((["fill", "stop", "wait", "wait"], [(2, "rod", 6), (4, "rod", 2)]), 3)

    def test_a_story_that_parts_at_the_last_beat(self):
        self.none((FILL, [(2, "rod", 6)]), 3)
        self.none((FILL, [(1, "rod", 3), (2, "rod", 4)]), 3)
        self.none((FILL, [(2, "knob", "run")]), 3)

    def test_by_lots(self):
        story = (FILL, [(1, "knob", "shut")])
        self.none(story, 2, lot=())
        self.none(story, 2, lot=("plug",))
        self.assertIsNone(none_paper(TUB, story, lot=("tap",)))
        self.assertIsNone(none_paper(TUB, story, lot=["plug", "tap"]))
        self.none((FILL, [(2, "rod", 6)]), 3, lot=("plug",))
        self.assertIsNone(none_paper(TUB, (FILL, [(2, "rod", 6)]), lot=("plug", "tap")))
        self.none((FILL, [(2, "rod", 7)]), 3, lot=("plug", "tap"))

    def test_where(self):
        self.assertIsNone(none_paper(TUB, (FILL, []), where=[(1, level(5, 5))]))
        self.assertIsNone(none_paper(TUB, (FILL, []), where=[(0, level(1, 1)), (2, level(3, 3))]))
        self.none((FILL, []), 2, where=[(1, level(6, 6))])
        self.none((FILL, []), 3, where=[(0, level(1, 1)), (2, level(4, 4))])
        self.none((FILL, []), 1, where=[(0, level(4, 6))])
        self.none((FILL, []), 3, where=[(2, NO)])
        self.none(([], []), 1, where=[(0, NO)])
        self.assertEqual(none_paper(TUB, ([], []), where=[(0, NO)]), [[]])

    def test_several_claims_of_one_beat(self):
        self.assertIsNone(none_paper(TUB, (FILL, []), where=[(1, level(2, 4)), (1, level(4, 5)), (1, level(4, 4))]))
        self.none((FILL, []), 2, where=[(1, level(2, 3)), (1, level(4, 5))])
        self.none((FILL, []), 2, where=[(1, level(4, 5)), (2, YES), (1, level(2, 3))])
        self.none((FILL, []), 1, where=[(0, level(1, 2)), (0, level(2, 3)), (0, ("not", level(2, 2)))])

    def test_where_by_lots_and_signs(self):
        story = (FILL, [(1, "view", 3)])
        self.none(story, 3, where=[(2, level(0, 1))])
        self.assertIsNone(none_paper(TUB, story, where=[(2, level(0, 1))], lot=("plug",)))
        self.none(story, 3, where=[(1, level(2, 2)), (2, level(3, 3))], lot=("plug",))
        self.none(story, 2, where=[(1, level(5, 5))], lot=("plug",))

    def test_too_many_whatever_where_says(self):
        # 3, 4 and 4 are open.
        for where in ((), [(0, NO)], [(1, level(2, 2))], [(2, YES)], [(0, level(1, 1)), (2, NO)]):
            with self.assertRaises(TooMany) as caught:
                none_paper(TUB, (FILL, []), where=where, most=3)
            self.assertEqual(caught.exception.what, 3)
            none_paper(TUB, (FILL, []), where=where, most=4)
        with self.assertRaises(TooMany):
            none_paper(TUB, (FILL, []), lot=("plug",), where=[(0, NO)], most=9)
        with self.assertRaises(TooMany):
            none_paper(TUB, (FILL, [(2, "rod", 40)]), most=3)
        with self.assertRaises(TooMany) as caught:
            none_paper(boxes_of(9, 9, 2), ([], []), where=[(0, NO)])
        self.assertEqual(caught.exception.what, 200)
        self.assertEqual(none_paper(boxes_of(9, 9, 1), ([], []), where=[(0, NO)]), [[]])
        self.assertEqual(none_paper(boxes_of(9, 9, 2), ([], []), where=[(0, NO)], most=300), [[]])

    def test_lists_for_tuples_and_names(self):
        story, where = (["draw", "wait"], [(1, "eye", 4)]), [(1, ("sum", ("pond",), 0, 1)), (2, ("not", ("mode", "gate", ("wide",))))]
        handed = [swapped(MILL), swapped(story), ["weir"], swapped(where)]
        ahead = copy.deepcopy(handed)
        found = none_paper(handed[0], handed[1], lot=handed[2], where=handed[3])
        self.assertEqual(found, none_paper(works=MILL, story=story, lot=("weir",), where=where, most=200))
        self.assertIs(shows_none(handed[0], handed[1], found, lot=handed[2], where=handed[3]), True)
        self.assertEqual(handed, ahead)
        with self.assertRaises(TypeError):
            none_paper(TUB, (FILL, []), ())

    def test_told_lists_are_the_askers_own(self):
        story = (FILL, [(2, "rod", 6)])
        found = none_paper(TUB, story)
        self.assertIs(type(found), list)
        self.assertTrue(all(type(row) is list and all(is_stand(TUB, one) for one in row) for row in found))
        self.assertEqual(len({id(row) for row in found}), len(found))
        again = copy.deepcopy(found)
        found[0].clear()
        found.clear()
        self.assertEqual(none_paper(TUB, story), again)

    def test_as_the_document_words_it(self):
        rng = random.Random(151)
        told = []
        while len(told) < 200:
            works = any_works(rng, 2, 2, 4)
            lot = any_lot(rng, works)
            story = plain.lived_story(rng, works, lot) if len(told) % 3 else any_story(rng, works)
            where = any_where(rng, works, story)
            every = plain.runs_where(works, story, lot, where)
            if every is None:
                continue
            found = none_paper(works, story, lot=lot, where=where, most=4000)
            self.assertEqual(found is None, len(every) > 0)
            if found is not None:
                self.assertTrue(plain.is_none_paper(works, story, found, lot, where))
                self.assertIs(shows_none(works, story, found, lot=lot, where=where), True)
            told.append(found is None)
        self.assertGreater(min(told.count(True), told.count(False)), 50)


class ShowsNoneTest(unittest.TestCase):
    # 1 to 3, then 3 alone fits, then nothing is 4.
    STORY = (FILL, [(1, "rod", 3), (2, "rod", 4)])
    PAPER = [stands("shut", 1, 2, 3), stands("run", 3), []]

    def right(self, *things, **more):
        for thing in things:
            with self.subTest(thing):
                self.assertIs(shows_none(TUB, self.STORY, thing, **more), True)

    def wrong(self, *things, **more):
        for thing in things:
            with self.subTest(thing):
                self.assertIs(shows_none(TUB, self.STORY, thing, **more), False)

    def test_no_more_stands_than_needed(self):
        self.right(self.PAPER)
        self.assertIs(shows_none(works=TUB, story=self.STORY, thing=self.PAPER, lot=(), where=()), True)
        self.assertIs(shows_none(TUB, ([], [(0, "rod", 4)]), [[]]), True)

    def test_more_stands_of_any_kind(self):
        first, second, _ = self.PAPER
        # None of these can begin, or fits, and nothing is behind them that is 3 at the next beat.
        self.right([stands("shut", 0, 1, 2, 3, 6), second, []])
        self.right([[(("in", "run"), (6,)), *first, (("out", "shut"), (6,))], second, []])
        self.right([first, stands("run", 0, 1, 2, 3, 5, 6), []])
        self.right([first, [*second, (("out", "run"), (1,)), (("out", "shut"), (2,))], []])

    def test_more_stands_behind_which_more_must_stand(self):
        first, second, _ = self.PAPER
        # By the plug out, 2 may come to be 3 with the plug still out, which fits.
        more = [*first, (("out", "shut"), (2,))]
        self.wrong([more, second, []])
        self.right([more, [*second, (("out", "run"), (3,))], []])
        # Behind 4, which doesn't fit, is 4, which does.
        self.wrong([first, stands("run", 3, 4), []])
        self.wrong([first, [*second, (("out", "run"), (4,))], []])
        self.wrong([first, [*second, (("out", "run"), (5,))], []])

    def test_a_stand_left_out_that_must_be_there(self):
        first, second, _ = self.PAPER
        for at in range(3):
            self.wrong([first[:at] + first[at + 1:], second, []])
        self.wrong([first, stands("run", 2), []], [first, stands("run", 2, 4, 5), []], [stands("shut", 0), second, []])

    def test_of_the_first_list_just_those_that_fit(self):
        story = (FILL, [(0, "rod", 2), (1, "rod", 6)])
        for first, shown in ((stands("shut", 2), True), (stands("shut", 1, 2, 3), True), (stands("shut", 1, 3), False)):
            self.assertIs(shows_none(TUB, story, [first, []]), shown)
        where = [(0, level(2, 2))]
        for first, shown in ((stands("shut", 2), True), (stands("shut", 1, 2), True), (stands("shut", 1, 3), False)):
            self.assertIs(shows_none(TUB, (FILL, [(1, "rod", 6)]), [first, []], where=where), shown)
        self.assertIs(shows_none(TUB, (FILL, []), [[]], where=[(0, NO)]), True)
        self.assertIs(shows_none(TUB, (FILL, []), [[]], where=[(0, level(0, 1))]), False)
        self.assertIs(shows_none(TUB, (FILL, []), [[]], where=[(1, NO)]), False)

    def test_lists(self):
        first, second, last = self.PAPER
        self.wrong([], [[]], [first], [first, second], [first, []], [[], []], [first, [], []], [[], second, []], [[], [], []])
        self.wrong([first, second, stands("shut", 4)], [first, second, stands("shut", 3)], [first, second, second])
        self.wrong([first, second, [], []], [first, second, second, []], [first, second, stands("shut", 3), []])

    def test_none_but_the_last_list_is_of_none(self):
        first = self.PAPER[0]
        story = (FILL, [(1, "rod", 6)])
        for paper, shown in (([first, []], True), ([first, [], []], False), ([first, [], [], []], False)):
            self.assertIs(shows_none(TUB, story, paper), shown)
        story = (FILL, [(0, "rod", 6)])
        for paper, shown in (([[]], True), ([[], []], False), ([[], [], []], False), ([[], first, []], False)):
            self.assertIs(shows_none(TUB, story, paper), shown)
        # What can't be there may stand in it all the same, but what may be behind must then stand behind it.
        self.assertIs(shows_none(TUB, story, [first, []]), False)
        self.assertIs(shows_none(TUB, story, [first, stands("run", 2, 3, 4, 5), []]), False)

    def test_as_many_lists_as_beats_at_most(self):
        story = ([], [(0, "rod", 2)])
        self.assertIs(shows_none(TUB, story, [stands("shut", 2), []]), False)
        self.assertIs(shows_none(TUB, story, [stands("shut", 2)]), False)
        self.assertIs(shows_none(TUB, story, [[]]), False)

    def test_lists_that_dont_rise(self):
        first, second, _ = self.PAPER
        self.wrong([first[::-1], second, []], [[first[1], first[0], first[2]], second, []])
        self.wrong([first + first[2:], second, []], [first, second * 2, []], [first[:1] + first, second, []])

    def test_stands_that_are_none_of_the_works(self):
        first, second, _ = self.PAPER
        for other in ((("in", "shut"), (7,)), (("in", "shut", "shut"), (4,)), (("out", "none"), (4,)), (("run", "in"), (4,))):
            self.wrong([sorted([*first, other]), second, []], [first, sorted([*second, other]), []])
        self.wrong([sorted([*first, (("in", "shut"), (-1,))]), second, []])

    def test_by_lots(self):
        first = self.PAPER[0]
        story = (FILL, [(1, "knob", "shut")])
        self.assertIs(shows_none(TUB, story, [first, []]), True)
        self.assertIs(shows_none(TUB, story, [first, []], lot=("plug",)), True)
        self.assertIs(shows_none(TUB, story, [first, []], lot=["tap"]), False)
        self.wrong(self.PAPER, lot=("plug",))

    def test_where(self):
        first = self.PAPER[0]
        self.right([first, []], where=[(1, level(4, 6))])
        self.right([first, []], where=[(2, YES), (1, level(0, 2))])
        self.wrong([first, []], where=[(1, level(3, 3))])
        self.wrong([first, []], where=[(0, level(1, 1)), (2, NO)])
        self.right([stands("shut", 1), []], where=[(0, level(1, 1)), (1, NO)])

    def test_there_is_a_run(self):
        for paper in (self.PAPER, [[]], [self.PAPER[0], []]):
            self.assertIs(shows_none(TUB, (FILL, []), paper), False)

    def test_lists_tuples_and_truths(self):
        self.wrong(swapped(self.PAPER), *retold(self.PAPER))
        self.assertIs(shows_none(TUB, ([], [(0, "rod", 4)]), ([],)), False)
        self.assertIs(shows_none(TUB, ([], [(0, "rod", 4)]), [()]), False)

    def test_any_thing_is_told_of_and_not_changed(self):
        for story in (self.STORY, ([], [(0, "rod", 4)])):
            for thing in any_things(152):
                ahead = repr(thing)
                self.assertIs(shows_none(TUB, story, thing), ahead == "[[]]" and story[0] == [])
                self.assertEqual(repr(thing), ahead)
        for thing in altered(self.PAPER, 153):
            ahead = repr(thing)
            self.assertIn(shows_none(TUB, self.STORY, thing), (True, False))
            self.assertEqual(repr(thing), ahead)

    def test_as_the_document_words_it(self):
        rng = random.Random(154)
        told = []
        while len(told) < 400:
            works = any_works(rng, 2, 2, 3)
            lot = any_lot(rng, works)
            story = any_story(rng, works)
            where = any_where(rng, works, story)
            paper = none_paper(works, story, lot=lot, where=where, most=4000)
            if paper is None:
                continue
            every = plain.all_stands(works)
            for _ in range(4):
                found = copy.deepcopy(paper)
                at = rng.randrange(len(found))
                if rng.random() < 0.5:
                    found[at] = sorted({*found[at], *rng.sample(every, rng.randint(1, 3))})
                elif found[at]:
                    found[at].remove(rng.choice(found[at]))
                told.append(plain.is_none_paper(works, story, found, lot, where))
                self.assertIs(shows_none(works, story, found, lot=lot, where=where), told[-1])
                found = replaced(found, (at,), [])
                self.assertIs(
                    shows_none(works, story, found, lot=lot, where=where),
                    plain.is_none_paper(works, story, found, lot, where),
                )
        self.assertGreater(min(told.count(True), told.count(False)), 60)


if __name__ == "__main__":
    unittest.main()
