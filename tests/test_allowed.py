import copy
import random
import unittest

from tests import plain
from tests.samples import FILL, GREAT, MILL, TUB, any_lot, any_story, any_works, boxes_of, replaced, swapped
from worktwin import allowed as file
from worktwin.allowed import MOST, allowed, opened
from worktwin.errors import TooMany
from worktwin.stands import is_stand
from worktwin.stories import until

def stands(plug, tap, *levels):
    return [((plug, tap), (level,)) for level in levels]


def levels(found):
    """The levels of the tub at each beat."""
    return [[stand[1][0] for stand in row] for row in found]


class OpenedTest(unittest.TestCase):
    def test_no_signs(self):
        self.assertEqual(
            opened(TUB, (FILL, [])),
            [stands("in", "shut", 1, 2, 3), stands("in", "run", 2, 3, 4, 5), stands("in", "shut", 2, 3, 4, 5)],
        )
        self.assertEqual(opened(TUB, ([], [])), [stands("in", "shut", 1, 2, 3)])

    def test_a_sign_at_the_first_beat(self):
        self.assertEqual(levels(opened(TUB, (FILL, [(0, "rod", 2)]))), [[2], [3, 4], [3, 4]])
        self.assertEqual(levels(opened(TUB, (FILL, [(0, "view", 0)]))), [[1], [2, 3], [2, 3]])
        self.assertEqual(levels(opened(TUB, ([], [(0, "view", 4)]))), [[3]])

    def test_a_sign_between(self):
        self.assertEqual(levels(opened(TUB, (FILL, [(1, "view", 2)]))), [[1, 2, 3], [2, 3], [2, 3]])

    def test_a_sign_at_the_last_beat(self):
        self.assertEqual(levels(opened(TUB, (FILL, [(2, "rod", 2)]))), [[1, 2, 3], [2, 3, 4, 5], [2]])

    def test_several_signs_of_one_beat(self):
        story = (FILL, [(1, "view", 3), (1, "view", 5), (1, "knob", "run"), (1, "view", 3)])
        self.assertEqual(levels(opened(TUB, story)), [[1, 2, 3], [4], [4]])

    def test_signs_that_nothing_fits(self):
        self.assertEqual(levels(opened(TUB, (FILL, [(1, "rod", 6)]))), [[1, 2, 3], [], []])
        self.assertEqual(levels(opened(TUB, (FILL, [(0, "rod", 4)]))), [[], [], []])
        self.assertEqual(levels(opened(TUB, (FILL, [(2, "knob", "run")]))), [[1, 2, 3], [2, 3, 4, 5], []])
        self.assertEqual(levels(opened(TUB, (FILL, [(1, "rod", 2), (1, "rod", 3)]))), [[1, 2, 3], [], []])


class AllowedTest(unittest.TestCase):
    def test_no_signs(self):
        self.assertEqual(allowed(TUB, (FILL, [])), opened(TUB, (FILL, [])))
        self.assertEqual(allowed(TUB, ([], [])), [stands("in", "shut", 1, 2, 3)])

    def test_late_signs_rule_out_stands_long_ahead(self):
        self.assertEqual(levels(allowed(TUB, (FILL, [(2, "rod", 2)]))), [[1], [2], [2]])
        self.assertEqual(levels(allowed(TUB, (FILL, [(2, "rod", 5)]))), [[3], [5], [5]])
        self.assertEqual(levels(allowed(TUB, (FILL, [(2, "rod", 4)]))), [[2, 3], [4], [4]])
        self.assertEqual(levels(allowed(TUB, (FILL, [(2, "view", 1)]))), [[1], [2], [2]])
        story = (["fill", "stop", "wait", "wait", "wait"], [(5, "rod", 2)])
        self.assertEqual(levels(allowed(TUB, story)), [[1], [2], [2], [2], [2], [2]])
        self.assertEqual(levels(opened(TUB, story)), [[1, 2, 3], *[[2, 3, 4, 5]] * 4, [2]])

    def test_signs_at_both_ends(self):
        self.assertEqual(levels(allowed(TUB, (["fill", "fill"], [(0, "rod", 1), (2, "rod", 4)]))), [[1], [2, 3], [4]])
        self.assertEqual(levels(allowed(TUB, (["fill", "fill"], [(0, "rod", 1), (2, "rod", 3)]))), [[1], [2], [3]])

    def test_the_order_of_signs_says_nothing(self):
        signs = [(0, "view", 2), (1, "view", 4), (2, "view", 4), (2, "knob", "shut")]
        found = allowed(TUB, (FILL, signs))
        self.assertEqual(levels(found), [[1, 2, 3], [3, 4, 5], [3, 4, 5]])
        self.assertEqual(allowed(TUB, (FILL, signs[::-1])), found)
        self.assertEqual(allowed(TUB, (FILL, signs + signs)), found)

    def test_signs_that_nothing_fits(self):
        for sign in ((0, "rod", 4), (1, "rod", 6), (1, "knob", "shut"), (2, "rod", 1), (2, "rod", 40)):
            self.assertEqual(allowed(TUB, (FILL, [sign])), [[], [], []])
        # Each of these fits some stand, but no run fits them all.
        self.assertEqual(allowed(TUB, (FILL, [(1, "rod", 3), (2, "rod", 4)])), [[], [], []])
        self.assertEqual(allowed(TUB, ([], [(0, "rod", 6)])), [[]])

    def test_a_part_that_acts_otherwise_without_odd_modes(self):
        story = (FILL, [(1, "knob", "shut")])
        self.assertEqual(allowed(TUB, story, lot=("plug",)), [[], [], []])
        self.assertEqual(allowed(TUB, story, lot=("tap",)), [stands("in", "shut", 1, 2, 3)] * 3)
        self.assertEqual(opened(TUB, story, lot=("tap",)), [stands("in", "shut", 1, 2, 3)] * 3)

    def test_a_part_that_acts_otherwise_with_an_odd_mode(self):
        found = [
            stands("in", "shut", 1, 2, 3),
            stands("in", "run", 2, 3, 4, 5) + stands("out", "run", 1, 2, 3, 4, 5),
            stands("in", "shut", 2, 3, 4, 5) + stands("out", "shut", 0, 1, 2, 3, 4, 5),
        ]
        self.assertEqual(opened(TUB, (FILL, []), lot=("plug",)), found)
        self.assertEqual(allowed(TUB, (FILL, []), lot=("plug",)), found)
        # Nothing is left but by the plug out at both beats.
        self.assertEqual(
            allowed(TUB, (FILL, [(2, "rod", 0)]), lot=("plug",)),
            [stands("in", "shut", 1), stands("out", "run", 1), stands("out", "shut", 0)],
        )
        self.assertEqual(
            allowed(TUB, (FILL, [(2, "rod", 1)]), lot=("plug",)),
            [stands("in", "shut", 1, 2), stands("in", "run", 2) + stands("out", "run", 1, 2), stands("out", "shut", 1)],
        )

    def test_at_the_last_beat_both_are_the_same(self):
        rng = random.Random(101)
        for _ in range(100):
            works = any_works(rng)
            story, lot = any_story(rng, works), any_lot(rng, works)
            self.assertEqual(allowed(works, story, lot=lot, most=4000)[-1], opened(works, story, lot=lot, most=4000)[-1])


class BothTest(unittest.TestCase):
    def refused(self, what, *arguments, **more):
        for ask in (opened, allowed):
            with self.assertRaises(TooMany) as caught:
                ask(*arguments, **more)
            self.assertEqual(caught.exception.what, what)

    def test_most(self):
        self.assertEqual(MOST, 200)
        self.assertIs(type(file.MOST), int)

    def test_too_many_just_where_more_are_open(self):
        # 3, 4 and 4 are open.
        for ask in (opened, allowed):
            self.assertEqual(len(ask(TUB, (FILL, []), most=4)), 3)
            self.assertEqual(len(ask(TUB, ([], []), most=3)), 1)
            # 3, 1 and 1.
            self.assertEqual(len(ask(TUB, (FILL, [(1, "rod", 2)]), most=3)), 3)
        self.refused(3, TUB, (FILL, []), most=3)
        self.refused(2, TUB, (FILL, []), most=2)
        self.refused(2, TUB, ([], []), most=2)

    def test_too_many_at_the_first_beat_alone(self):
        story = (FILL, [(1, "rod", 2)])
        self.refused(2, TUB, story, most=2)
        self.assertEqual(levels(allowed(TUB, (FILL, [(0, "rod", 1), (1, "rod", 2)]), most=1)), [[1], [2], [2]])

    def test_too_many_at_a_beat_between_though_few_are_allowed(self):
        # 3, 4 and 1 are open, 1, 1 and 1 allowed.
        self.refused(3, TUB, (FILL, [(2, "rod", 2)]), most=3)
        self.refused(3, TUB, (FILL, [(2, "rod", 40)]), most=3)

    def test_too_many_at_the_last_beat(self):
        self.refused(6, TUB, (["wait", "wait", "fill"], []), most=6, lot=("tap",))
        self.assertEqual(len(allowed(TUB, (["wait", "wait", "fill"], []), most=7, lot=("tap",))[3]), 7)
        self.refused(3, TUB, (["wait", "wait", "fill"], []), most=3)
        self.assertEqual(len(allowed(TUB, (["wait", "wait", "fill"], []), most=4)), 4)

    def test_too_many_by_that_lot(self):
        # 3, 9 and 10 are open.
        self.refused(9, TUB, (FILL, []), lot=("plug",), most=9)
        self.refused(8, TUB, (FILL, []), lot=("plug",), most=8)
        self.assertEqual(len(opened(TUB, (FILL, []), lot=("plug",), most=10)[2]), 10)

    def test_none_are_never_too_many(self):
        for ask in (opened, allowed):
            self.assertEqual(ask(TUB, (FILL, [(0, "rod", 9)]), most=1), [[], [], []])

    def test_too_many_of_any_works(self):
        rng = random.Random(104)
        for at in range(60):
            works = any_works(rng, 2, 2, 4)
            lot = any_lot(rng, works)
            story = plain.lived_story(rng, works, lot) if at % 2 else any_story(rng, works)
            rows = plain.opened(works, story, lot)
            many = max([len(row) for row in rows]) if rows else 0
            if many > 1:
                self.refused(many - 1, works, story, lot=lot, most=many - 1)
                self.refused(1, works, story, lot=lot, most=1)
                self.assertEqual(opened(works, story, lot=lot, most=many), rows)
                self.assertEqual(allowed(works, story, lot=lot, most=many), plain.allowed(works, story, lot))

    def test_most_left_out_is_200(self):
        works = boxes_of(9, 9, 1)
        for ask in (opened, allowed):
            self.assertEqual(len(ask(works, (["wait"], []))[0]), 200)
            self.assertEqual(len(ask(boxes_of(9, 9, 2), ([], []), most=300)[0]), 300)
        self.refused(200, boxes_of(9, 9, 2), ([], []))
        self.refused(200, boxes_of(6, 5, 4), ([], []))
        self.refused(199, works, ([], []), most=199)

    def test_signs_come_ahead_of_the_count(self):
        works = replaced(boxes_of(9, 9, 2), (5,), (("s", "sum", ("a", "b"), 0),))
        self.assertEqual([len(row) for row in opened(works, (["wait"], [(0, "s", 3)]))], [12, 12])
        works = replaced(works, (3,), (("", "c", "p", "m", 0, 2),))
        self.assertEqual([len(row) for row in opened(works, (["wait"], [(0, "s", 9)]), most=50)], [30, 50])
        self.refused(49, works, (["wait"], [(0, "s", 9)]), most=49)
        self.assertEqual([len(row) for row in opened(works, (["wait"], [(0, "s", 9), (1, "s", 8)]), most=30)], [30, 0])

    def test_lists_for_tuples(self):
        story = (["draw", "wait"], [(1, "eye", 4), (2, "hand", "wide")])
        for lot in ((), ("gate",), ("gate", "weir")):
            for ask in (opened, allowed):
                handed = [swapped(MILL), swapped(story), list(lot)]
                ahead = copy.deepcopy(handed)
                found = ask(handed[0], handed[1], lot=handed[2])
                self.assertEqual(found, ask(MILL, story, lot=lot))
                self.assertEqual(handed, ahead)
                self.assertTrue(all(is_stand(MILL, stand) for row in found for stand in row))

    def test_names_of_arguments(self):
        story = (FILL, [])
        for ask in (opened, allowed):
            self.assertEqual(ask(works=TUB, story=story, lot=(), most=5), ask(TUB, story))
            with self.assertRaises(TypeError):
                ask(TUB, story, ())

    def test_each_told_list_is_its_own(self):
        for ask in (opened, allowed):
            for story in ((FILL, []), (["wait", "wait"], []), (FILL, [(0, "rod", 6)])):
                found = ask(TUB, story)
                self.assertIs(type(found), list)
                self.assertTrue(all(type(row) is list for row in found))
                self.assertEqual(len({id(row) for row in found}), 3)
                again = copy.deepcopy(found)
                found[0].append("more")
                self.assertEqual(found[1:], again[1:])
                found[1].clear()
                found.clear()
                self.assertEqual(ask(TUB, story), again)

    def test_as_the_document_words_it(self):
        rng = random.Random(102)
        tried = 0
        some = 0
        while tried < 250:
            works = any_works(rng, 2, 2, 6)
            if tried % 2:
                # Sharper sensors, so that late signs rule out more.
                box, part = works[1][-1][0], works[2][0][0]
                works = replaced(works, (5,), (("s", "sum", (box,), 0), ("t", "part", part), ("u", "sum", (box,), 1)))
            lot = any_lot(rng, works)
            story = plain.lived_story(rng, works, lot) if tried % 3 else any_story(rng, works, 3, 3)
            wanted = plain.allowed(works, story, lot)
            wanted_open = plain.opened(works, story, lot)
            if wanted is None or wanted_open is None:
                continue
            tried += 1
            some += wanted != wanted_open and wanted[0] != []
            self.assertEqual(allowed(works, story, lot=lot, most=4000), wanted)
            self.assertEqual(opened(works, story, lot=lot, most=4000), wanted_open)
        self.assertGreater(some, 20)

    def test_opened_is_what_is_allowed_at_the_end_of_each_story_until(self):
        rng = random.Random(103)
        for _ in range(60):
            works = any_works(rng, 3, 3, 3)
            story, lot = any_story(rng, works, 5, 6), any_lot(rng, works)
            found = opened(works, story, lot=lot, most=4000)
            for beat, row in enumerate(found):
                self.assertEqual(row, allowed(works, until(works, story, beat), lot=lot, most=4000)[-1])
                self.assertEqual(row, sorted(set(row)))

    def test_a_great_works(self):
        found = allowed(GREAT, (["db", "dc"], [(1, "sc", "b"), (2, "sa", 20)]), most=400)
        self.assertEqual([len(row) > 0 for row in found], [True] * 3)
        self.assertTrue(all(is_stand(GREAT, stand) for row in found for stand in row))


if __name__ == "__main__":
    unittest.main()
