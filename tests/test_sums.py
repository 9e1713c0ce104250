import copy
import random
import unittest

from tests import plain
from tests.samples import LEAST, MILL, TUB, any_works, boxes_of, swapped
from worktwin.stands import is_stand
from worktwin.sums import spanned, sums

MODES = ("shut", "up")
OTHER = ("wide", "up")


def mill(*levels, modes=MODES):
    """Stands of the mill, of these levels."""
    return [(modes, pair) for pair in levels]


class SumsTest(unittest.TestCase):
    def test_one_box(self):
        self.assertEqual(sums(TUB, [(("in", "run"), (4,))]), [(("tub",), 4, 4)])
        self.assertEqual(sums(TUB, [(("in", "run"), (4,)), (("out", "run"), (1,)), (("in", "shut"), (2,))]), [(("tub",), 1, 4)])
        self.assertEqual(sums(LEAST, [(("m",), (0,))]), [(("b",), 0, 0)])

    def test_two_boxes(self):
        found = sums(MILL, mill((4, 0), (3, 2), (2, 2)))
        self.assertEqual(found, [(("pond",), 2, 4), (("pond", "race"), 4, 5), (("race",), 0, 2)])

    def test_three_boxes(self):
        stands = [(("m",), levels) for levels in ((1, 5, 0), (2, 3, 9), (4, 0, 7))]
        self.assertEqual(
            sums(boxes_of(9, 9, 9), stands),
            [
                (("a",), 1, 4), (("a", "b"), 4, 6), (("a", "b", "c"), 6, 14), (("a", "c"), 1, 11),
                (("b",), 0, 5), (("b", "c"), 5, 12), (("c",), 0, 9),
            ],
        )

    def test_stands_of_several_modes(self):
        stands = mill((4, 0)) + mill((1, 3), modes=OTHER)
        self.assertEqual(sums(MILL, stands), [(("pond",), 1, 4), (("pond", "race"), 4, 4), (("race",), 0, 3)])

    def test_lists_for_tuples_and_names(self):
        stands = mill((4, 0), (3, 2), (2, 2))
        handed = [swapped(MILL), swapped(stands)]
        ahead = copy.deepcopy(handed)
        found = sums(*handed)
        self.assertEqual(found, sums(works=MILL, stands=stands))
        self.assertEqual(handed, ahead)
        self.assertIs(type(found), list)
        self.assertTrue(all(type(row) is tuple and type(row[0]) is tuple for row in found))
        again = copy.deepcopy(found)
        found.clear()
        self.assertEqual(sums(MILL, stands), again)

    def test_as_the_document_words_it(self):
        rng = random.Random(171)
        for _ in range(150):
            works = any_works(rng)
            every = plain.all_stands(works)
            stands = rng.sample(every, rng.randint(1, min(len(every), 12)))
            found = sums(works, stands)
            self.assertEqual(found, plain.sums(works, stands))
            self.assertEqual(found, sorted(found))
            self.assertEqual(len(found), 2 ** len(works[1]) - 1)


class SpannedTest(unittest.TestCase):
    def test_none(self):
        self.assertEqual(spanned(MILL, []), [])
        self.assertEqual(spanned(LEAST, ()), [])

    def test_one_stand(self):
        self.assertEqual(spanned(MILL, mill((4, 2))), mill((4, 2)))

    def test_one_box(self):
        stands = [(("in", "run"), (4,)), (("in", "run"), (1,))]
        self.assertEqual(spanned(TUB, stands), [(("in", "run"), (level,)) for level in (1, 2, 3, 4)])

    def test_two_boxes(self):
        # Each from 0 to 2, together 2.
        self.assertEqual(spanned(MILL, mill((2, 0), (0, 2))), mill((0, 2), (1, 1), (2, 0)))
        # Each from 0 to 2, together 0 to 4.
        self.assertEqual(spanned(MILL, mill((2, 2), (0, 0))), mill(*[(a, b) for a in range(3) for b in range(3)]))
        # Each from 0 to 1, together 0 to 1.
        self.assertEqual(spanned(MILL, mill((0, 0), (1, 0), (0, 1))), mill((0, 0), (0, 1), (1, 0)))
        # A gap is filled.
        self.assertEqual(spanned(MILL, mill((5, 1), (1, 1))), mill((1, 1), (2, 1), (3, 1), (4, 1), (5, 1)))

    def test_three_boxes(self):
        # Each 0 or 1, any two together 0 to 1, and so all three: but by twos alone all would be at most 1 as well.
        stands = [(("m",), levels) for levels in ((0, 0, 0), (1, 0, 0), (0, 1, 0), (0, 0, 1))]
        self.assertEqual(spanned(boxes_of(9, 9, 9), stands), sorted(stands))
        # Any two together 0 to 2, all three 2: not what has 0 or 3 of them.
        stands = [(("m",), levels) for levels in ((1, 1, 0), (1, 0, 1), (0, 1, 1))]
        self.assertEqual(spanned(boxes_of(9, 9, 9), stands), sorted(stands))

    def test_modes_stand_each_for_themselves(self):
        stands = mill((4, 0), (3, 0)) + mill((1, 3), (1, 1), modes=OTHER)
        wanted = mill((3, 0), (4, 0)) + mill((1, 1), (1, 2), (1, 3), modes=OTHER)
        self.assertEqual(spanned(MILL, stands), wanted)
        self.assertEqual(spanned(MILL, stands[::-1]), wanted)

    def test_lists_for_tuples_and_names(self):
        stands = mill((2, 0), (0, 2)) + mill((1, 3), modes=OTHER)
        handed = [swapped(MILL), swapped(stands)]
        ahead = copy.deepcopy(handed)
        found = spanned(*handed)
        self.assertEqual(found, spanned(works=MILL, stands=stands))
        self.assertEqual(handed, ahead)
        self.assertTrue(all(is_stand(MILL, stand) for stand in found))
        again = copy.deepcopy(found)
        found.clear()
        self.assertEqual(spanned(MILL, stands), again)
        self.assertEqual(spanned(MILL, again), again)

    def test_as_the_document_words_it(self):
        rng = random.Random(172)
        more = 0
        for _ in range(150):
            works = any_works(rng, 3, 2, 3)
            every = plain.all_stands(works)
            stands = rng.sample(every, rng.randint(0, min(len(every), 9)))
            found = spanned(works, stands)
            self.assertEqual(found, plain.spanned(works, stands))
            self.assertTrue(all(stand in found for stand in stands))
            more += len(found) > len(stands)
        self.assertGreater(more, 50)

    def test_400_stands(self):
        works = boxes_of(9, 9, 9)
        stands = random.Random(173).sample(plain.all_stands(works), 400)
        self.assertTrue(set(stands) <= set(spanned(works, stands)))


if __name__ == "__main__":
    unittest.main()
