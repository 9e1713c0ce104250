import copy
import random
import unittest

from tests import plain
from tests.samples import FILL, LEAST, MILL, TUB, any_lot, any_story, any_works, boxes_of, swapped
from worktwin.allowed import allowed
from worktwin.errors import TooMany, Unlike
from worktwin.joining import joined, shared
from worktwin.stories import told_story


def levels(found):
    """The levels of the tub at each beat."""
    return [[stand[1][0] for stand in row] for row in found]


class JoinedTest(unittest.TestCase):
    def test_one_story(self):
        for story in (([], []), (FILL, []), (FILL, [(2, "rod", 3), (0, "rod", 1), (2, "rod", 3)])):
            self.assertEqual(joined(TUB, [story]), told_story(TUB, story))

    def test_several_of_unlike_length(self):
        stories = [(["fill"], [(1, "rod", 3)]), (FILL, [(2, "knob", "shut")]), ([], [(0, "view", 2)])]
        wanted = (FILL, [(0, "view", 2), (1, "rod", 3), (2, "knob", "shut")])
        for order in ((0, 1, 2), (2, 1, 0), (1, 0, 2), (1, 2, 0)):
            self.assertEqual(joined(TUB, [stories[at] for at in order]), wanted)

    def test_the_same_signs_in_several(self):
        one = (["fill"], [(1, "rod", 3), (0, "rod", 1), (1, "rod", 3)])
        other = (FILL, [(0, "rod", 1), (1, "view", 3), (1, "rod", 3)])
        wanted = (FILL, [(0, "rod", 1), (1, "rod", 3), (1, "view", 3)])
        self.assertEqual(joined(TUB, [one, other]), wanted)
        self.assertEqual(joined(TUB, [other, one, other, one]), wanted)

    def test_signs_that_part_are_all_there(self):
        self.assertEqual(joined(TUB, [([], [(0, "rod", 2)]), ([], [(0, "rod", 1)])]), ([], [(0, "rod", 1), (0, "rod", 2)]))

    def test_kinds_and_own_lists(self):
        stories = [(list(FILL), [(0, "rod", 1)]), (["fill"], [])]
        ahead = copy.deepcopy(stories)
        found = joined(TUB, stories)
        self.assertIs(type(found), tuple)
        self.assertEqual([type(one) for one in found], [list, list])
        found[0].clear()
        found[1].clear()
        self.assertEqual(stories, ahead)
        self.assertEqual(joined(TUB, stories), (FILL, [(0, "rod", 1)]))
        self.assertEqual(joined(works=TUB, stories=tuple(stories)), (FILL, [(0, "rod", 1)]))

    def test_any_stories(self):
        rng = random.Random(241)
        for _ in range(100):
            works = any_works(rng)
            longest = any_story(rng, works, 5, 6)
            stories = [longest]
            for _ in range(rng.randint(0, 3)):
                deeds = longest[0][:rng.randint(0, len(longest[0]))]
                stories.append((deeds, [sign for sign in any_story(rng, works, 5, 6)[1] if sign[0] <= len(deeds)]))
            rng.shuffle(stories)
            wanted = (longest[0], sorted({sign for _, signs in stories for sign in signs}))
            self.assertEqual(joined(works, stories), wanted)


class SharedTest(unittest.TestCase):
    def test_one_story(self):
        for story in (([], []), (FILL, []), (FILL, [(2, "rod", 3)]), (FILL, [(2, "rod", 9)])):
            self.assertEqual(shared(TUB, [story]), allowed(TUB, story))

    def test_as_far_as_all_have_beats(self):
        one, other = (FILL, [(2, "rod", 4)]), (["fill"], [(1, "view", 3)])
        self.assertEqual(levels(allowed(TUB, one)), [[2, 3], [4], [4]])
        self.assertEqual(levels(allowed(TUB, other)), [[1, 2, 3], [2, 3, 4]])
        for stories in ([one, other], [other, one], [one, other, one], (other, one)):
            self.assertEqual(levels(shared(TUB, stories)), [[2, 3], [4]])
        self.assertEqual(levels(shared(TUB, [one, ([], [(0, "rod", 3)]), other])), [[3]])

    def test_none_where_one_has_no_run(self):
        self.assertEqual(shared(TUB, [(FILL, []), (["fill"], [(1, "rod", 6)])]), [[], []])
        self.assertEqual(shared(TUB, [(["fill"], [(0, "rod", 4)]), (FILL, [])]), [[], []])
        self.assertEqual(shared(TUB, [(FILL, [(2, "rod", 9)]), ([], [])]), [[]])

    def test_none_where_they_part(self):
        self.assertEqual(shared(TUB, [([], [(0, "rod", 1)]), ([], [(0, "rod", 2)])]), [[]])
        found = shared(TUB, [(FILL, [(0, "rod", 1)]), (FILL, [(2, "rod", 5)])])
        self.assertEqual(found, [[], [], []])
        self.assertEqual(len({id(row) for row in found}), 3)

    def test_more_than_the_joined_one_allows(self):
        stories = [(["fill"], [(0, "rod", 1)]), (["fill"], [(0, "rod", 2)])]
        self.assertEqual(levels(shared(TUB, stories)), [[], [3]])
        self.assertEqual(levels(allowed(TUB, joined(TUB, stories))), [[], []])
        stories = [(["fill", "fill"], [(0, "rod", 1)]), (["fill", "fill"], [(2, "rod", 3)])]
        self.assertEqual(levels(shared(TUB, stories)), [[1], [2], [3]])
        self.assertEqual(shared(TUB, stories), allowed(TUB, joined(TUB, stories)))

    def test_by_lots(self):
        stories = [(FILL, [(1, "knob", "shut")]), (["fill"], [(1, "rod", 0)])]
        self.assertEqual(shared(TUB, stories), [[], []])
        self.assertEqual(shared(TUB, stories, lot=("tap",)), [[], []])
        self.assertEqual(
            shared(TUB, stories, lot=["plug", "tap"]),
            [[(("in", "shut"), (1,))], [(("out", "shut"), (0,))]],
        )

    def test_told_lists_are_the_askers_own(self):
        stories = [(list(FILL), [(1, "view", 3)])]
        found = shared(TUB, stories)
        again = copy.deepcopy(found)
        for row in found:
            row.clear()
        found.clear()
        self.assertEqual(shared(TUB, stories), again)

    def test_lists_for_tuples_and_names(self):
        stories = [(["draw"], [(1, "eye", 4)]), (["draw", "wait"], [(2, "rod", 1), (0, "rod", 4)])]
        handed = [swapped(MILL), swapped(stories), ["gate"]]
        ahead = copy.deepcopy(handed)
        self.assertEqual(repr(joined(handed[0], handed[1])), repr(joined(MILL, stories)))
        found = shared(handed[0], handed[1], lot=handed[2])
        self.assertEqual(repr(found), repr(shared(works=MILL, stories=stories, lot=("gate",), most=200)))
        self.assertEqual(handed, ahead)
        with self.assertRaises(TypeError):
            shared(MILL, stories, ())

    def test_as_the_document_words_it(self):
        rng = random.Random(242)
        tried = []
        while len(tried) < 100:
            works = any_works(rng, 2, 2, 4)
            lot = any_lot(rng, works)
            stories = []
            for _ in range(rng.randint(1, 3)):
                deeds, signs = plain.lived_story(rng, works, lot)
                done = stories[0][0] if stories else deeds
                done = done[:rng.randint(0, len(done))] if rng.random() < 0.5 else done
                stories.append((done, [sign for sign in signs if sign[0] <= len(done)]))
            rows = [plain.allowed(works, story, lot) for story in stories]
            if any(row is None for row in rows):
                continue
            many = min(len(row) for row in rows)
            wanted = [sorted(set.intersection(*[set(row[beat]) for row in rows])) for beat in range(many)]
            self.assertEqual(shared(works, stories, lot=lot, most=4000), wanted)
            one = allowed(works, joined(works, stories), lot=lot, most=4000)
            self.assertTrue(all(set(one[beat]) <= set(wanted[beat]) for beat in range(many)))
            tried.append((one[:many] == wanted, one[0] == []))
        self.assertGreater(len([one for one in tried if one == (True, False)]), 10)
        self.assertGreater(len([one for one in tried if not one[0]]), 0)


class RefusedTest(unittest.TestCase):
    def unlike(self, beat, stories, **more):
        for ask in (joined, shared):
            with self.assertRaises(Unlike) as caught:
                ask(TUB, stories, **(more if ask is shared else {}))
            self.assertEqual(caught.exception.what, beat)

    def test_the_first_beat_whose_deed_is_unlike(self):
        self.unlike(1, [(["fill"], []), (["stop"], [])])
        self.unlike(1, [(["fill"], []), (["wait", "stop"], [])])
        self.unlike(2, [(["fill", "stop"], []), (["fill", "wait"], [])])
        self.unlike(3, [(["fill", "stop", "wait", "fill"], []), (["fill", "stop", "fill", "wait"], [])])

    def test_a_later_story_differs(self):
        self.unlike(2, [(["fill", "stop"], []), (["fill"], []), ([], []), (["fill", "fill"], [])])
        self.unlike(1, [([], []), (["fill"], []), (["wait"], [])])
        # Of two unlike beats the earlier one, whichever story has it.
        self.unlike(1, [(["fill", "stop", "wait"], []), (["fill", "stop", "stop"], []), (["stop"], [])])
        # The longest one is like each, but two others are not alike: then one isn't like the longest.
        self.unlike(2, [(["fill", "stop"], []), (["fill", "wait"], []), (["fill", "stop", "wait"], [])])

    def test_deeds_that_not_all_have(self):
        self.assertEqual(joined(TUB, [([], []), (["fill"], []), (["fill", "wait"], [])]), (["fill", "wait"], []))
        self.unlike(2, [([], []), (["fill"], []), (["fill", "wait"], []), (["fill", "stop", "wait"], [])])

    def test_unlike_goes_ahead_of_too_many(self):
        self.unlike(2, [(["fill", "stop"], []), (["fill", "wait"], [])], most=1)
        with self.assertRaises(Unlike):
            shared(boxes_of(9, 9, 9), [([], []), (["wait"], []), (["none"], [])])

    def test_too_many_of_any(self):
        few, many = (FILL, [(0, "rod", 1)]), (FILL, [])
        for stories in ([many, few], [few, many], [few, few, many], [(["fill"], [(0, "rod", 9)]), many]):
            with self.assertRaises(TooMany) as caught:
                shared(TUB, stories, most=3)
            self.assertEqual(caught.exception.what, 3)
            shared(TUB, stories, most=4)
        self.assertEqual(levels(shared(TUB, [few, few], most=2)), [[1], [2, 3], [2, 3]])
        # Also beyond the beats that all have.
        with self.assertRaises(TooMany):
            shared(TUB, [([], []), (FILL, [])], most=3)
        with self.assertRaises(TooMany):
            shared(TUB, [few], lot=("plug",), most=3)
        with self.assertRaises(TooMany) as caught:
            shared(boxes_of(9, 9, 2), [([], [])])
        self.assertEqual(caught.exception.what, 200)
        self.assertEqual(len(shared(boxes_of(9, 9, 1), [([], [])])[0]), 200)
        self.assertEqual(len(shared(boxes_of(9, 9, 2), [([], [])], most=300)[0]), 300)
        self.assertEqual(shared(LEAST, [([], []), (["wait"], [])]), [[(("m",), (0,))]])


if __name__ == "__main__":
    unittest.main()
