import copy
import random
import unittest

from tests import plain
from tests.samples import GREAT, LEAST, MILL, TUB, altered, any_things, any_works, boxes_of, retold, swapped
from worktwin.lumps import lumps, shows_lumps

MODES = ("shut", "up")
OTHER = ("wide", "up")


def mill(*levels, modes=MODES):
    """Stands of the mill, of these levels."""
    return [(modes, pair) for pair in levels]


def block(pond, race, modes=MODES):
    """All stands of the mill within these pairs."""
    return [(modes, (a, b)) for a in range(pond[0], pond[1] + 1) for b in range(race[0], race[1] + 1)]


class LumpsTest(unittest.TestCase):
    def test_none(self):
        for works in (MILL, LEAST, GREAT):
            self.assertEqual(lumps(works, []), [])
            self.assertEqual(lumps(works, ()), [])

    def test_one_stand(self):
        self.assertEqual(lumps(MILL, mill((4, 0))), [(MODES, ((4, 4), (0, 0)))])
        self.assertEqual(lumps(LEAST, [(("n",), (1,))]), [(("n",), ((1, 1),))])

    def test_stands_that_are_one_lump(self):
        self.assertEqual(lumps(MILL, block((1, 4), (0, 2))), [(MODES, ((1, 4), (0, 2)))])
        self.assertEqual(lumps(MILL, block((0, 5), (3, 3))[::-1]), [(MODES, ((0, 5), (3, 3)))])
        self.assertEqual(lumps(MILL, block((2, 2), (0, 3))), [(MODES, ((2, 2), (0, 3)))])

    def test_all_stands_of_a_works(self):
        for works in (MILL, LEAST, TUB):
            every = plain.all_stands(works)
            spans = tuple([(0, box[1]) for box in works[1]])
            self.assertEqual(lumps(works, every), sorted([(modes, spans) for modes in {stand[0] for stand in every}]))

    def test_gaps_along_one_box(self):
        found = lumps(TUB, [(("in", "shut"), (level,)) for level in (6, 0, 3, 1, 4)])
        self.assertEqual(found, [(("in", "shut"), ranges) for ranges in (((0, 1),), ((3, 4),), ((6, 6),))])

    def test_modes_part_lumps(self):
        found = lumps(MILL, block((1, 2), (0, 1)) + block((1, 2), (0, 1), OTHER))
        self.assertEqual(found, [(MODES, ((1, 2), (0, 1))), (OTHER, ((1, 2), (0, 1)))])

    def test_corners_dont_touch(self):
        self.assertEqual(lumps(MILL, mill((1, 1), (2, 2))), [(MODES, ((1, 1), (1, 1))), (MODES, ((2, 2), (2, 2)))])

    def test_stands_that_several_lists_have(self):
        found = lumps(MILL, mill((0, 0), (0, 1), (1, 0)))
        wanted = (
            [(MODES, ((0, 0), (0, 0))), (MODES, ((0, 0), (1, 1))), (MODES, ((1, 1), (0, 0)))],
            [(MODES, ((0, 0), (0, 1))), (MODES, ((1, 1), (0, 0)))],
            [(MODES, ((0, 0), (1, 1))), (MODES, ((0, 1), (0, 0)))],
        )
        self.assertIn(found, wanted[1:])
        for rows, shown in zip(wanted, (False, True, True)):
            self.assertIs(shows_lumps(MILL, mill((0, 0), (0, 1), (1, 0)), rows), shown)

    def test_lists_for_tuples_and_names(self):
        stands = mill((0, 0), (0, 1), (1, 0), (3, 2)) + mill((0, 0), modes=OTHER)
        handed = [swapped(MILL), swapped(stands)]
        ahead = copy.deepcopy(handed)
        found = lumps(*handed)
        self.assertEqual(found, lumps(works=MILL, stands=stands))
        self.assertIs(shows_lumps(handed[0], handed[1], found), True)
        self.assertIs(shows_lumps(handed[0], handed[1], swapped(found)), False)
        self.assertEqual(handed, ahead)
        self.assertIs(type(found), list)

    def test_told_again_the_same(self):
        stands = mill((0, 0), (0, 1), (1, 0))
        found = lumps(MILL, stands)
        again = copy.deepcopy(found)
        found.clear()
        self.assertEqual(lumps(MILL, stands), again)

    def test_as_the_document_words_it(self):
        rng = random.Random(161)
        for at in range(150):
            works = boxes_of(9, 9, 9) if at % 3 == 0 else any_works(rng, 3, 2, 3)
            every = plain.all_stands(works)
            if at % 3 == 0:
                every = [stand for stand in every if max(stand[1]) < 4]
            stands = rng.sample(every, rng.randint(0, min(len(every), 100)))
            found = lumps(works, stands)
            self.assertTrue(plain.are_lumps(stands, found))
            self.assertIs(shows_lumps(works, stands, found), True)
            rng.shuffle(stands)
            self.assertTrue(plain.are_lumps(stands, lumps(works, stands)))

    def test_400_stands(self):
        rng = random.Random(162)
        works = boxes_of(9, 9, 9)
        stands = [(("m",), levels) for modes, levels in plain.all_stands(works) if modes == ("m",)]
        for many in (400, 399):
            drawn = rng.sample(stands, many)
            found = lumps(works, drawn)
            self.assertIs(shows_lumps(works, drawn, found), True)
            self.assertEqual(sorted(one for lump in found for one in plain.lump_stands(lump)), sorted(drawn))
            self.assertIs(shows_lumps(works, drawn[1:], found), False)


class ShowsLumpsTest(unittest.TestCase):
    STANDS = block((0, 1), (0, 1)) + block((3, 4), (0, 0)) + mill((2, 2)) + mill((1, 1), modes=OTHER)
    LUMPS = [
        (MODES, ((0, 1), (0, 1))),
        (MODES, ((2, 2), (2, 2))),
        (MODES, ((3, 4), (0, 0))),
        (OTHER, ((1, 1), (1, 1))),
    ]

    def right(self, stands, *things):
        for thing in things:
            with self.subTest(thing):
                self.assertIs(shows_lumps(MILL, stands, thing), True)

    def wrong(self, stands, *things):
        for thing in things:
            with self.subTest(thing):
                self.assertIs(shows_lumps(MILL, stands, thing), False)

    def test_lumps(self):
        self.right(self.STANDS, self.LUMPS)
        self.right(self.STANDS[::-1], self.LUMPS)
        self.right([], [])
        self.wrong([], [[]], (), self.LUMPS, [()], None)
        self.wrong(self.STANDS, [])
        self.assertIs(shows_lumps(works=MILL, stands=self.STANDS, thing=self.LUMPS), True)

    def test_a_stand_in_none_or_in_two(self):
        for at in range(4):
            self.wrong(self.STANDS, self.LUMPS[:at] + self.LUMPS[at + 1:])
        for at in range(len(self.STANDS)):
            self.wrong(self.STANDS[:at] + self.STANDS[at + 1:], self.LUMPS)
        stands = block((0, 1), (0, 0)) + mill((1, 1))
        # As many stands as handed in, but one twice and one not there.
        self.wrong(stands, [(MODES, ((0, 1), (0, 0))), (MODES, ((1, 1), (0, 0)))])
        self.wrong(stands, [(MODES, ((0, 1), (0, 0))), (MODES, ((1, 1), (0, 1)))])

    def test_other_stands(self):
        self.wrong(self.STANDS, [*self.LUMPS, (OTHER, ((2, 2), (2, 2)))])
        self.wrong(mill((0, 0), (1, 1)), [(MODES, ((0, 1), (0, 1)))], [(MODES, ((0, 1), (0, 0)))])
        self.wrong(mill((0, 0)), [(OTHER, ((0, 0), (0, 0)))], [(MODES, ((0, 0), (1, 1)))])
        self.wrong(mill((0, 0)), [(MODES, ((0, 5), (0, 3)))])

    def test_two_that_make_one(self):
        self.wrong(block((0, 1), (0, 0)), [(MODES, ((0, 0), (0, 0))), (MODES, ((1, 1), (0, 0)))])
        self.wrong(block((0, 0), (0, 1)), [(MODES, ((0, 0), (0, 0))), (MODES, ((0, 0), (1, 1)))])
        self.wrong(block((0, 3), (1, 2)), [(MODES, ((0, 1), (1, 2))), (MODES, ((2, 3), (1, 2)))])
        self.wrong(block((0, 3), (1, 2)), [(MODES, ((0, 3), (1, 1))), (MODES, ((0, 3), (2, 2)))])
        self.right(block((0, 3), (1, 2)), [(MODES, ((0, 3), (1, 2)))])
        # Of unlike modes they make none.
        self.right(
            mill((0, 0)) + mill((1, 0), modes=OTHER),
            [(MODES, ((0, 0), (0, 0))), (OTHER, ((1, 1), (0, 0)))],
        )

    def test_lumps_of_which_no_two_make_one_though_all_do(self):
        # Five lumps around a midst: none of them has a neighbour with which it makes a lump.
        rows = [
            (MODES, ((0, 0), (0, 1))), (MODES, ((0, 1), (2, 2))), (MODES, ((1, 1), (1, 1))),
            (MODES, ((1, 2), (0, 0))), (MODES, ((2, 2), (1, 2))),
        ]
        self.right(block((0, 2), (0, 2)), rows, [(MODES, ((0, 2), (0, 2)))])

    def test_not_rising_or_twice(self):
        self.wrong(self.STANDS, self.LUMPS[::-1], [self.LUMPS[1], self.LUMPS[0], *self.LUMPS[2:]])
        self.wrong(self.STANDS, [self.LUMPS[0], *self.LUMPS], [*self.LUMPS, self.LUMPS[-1]])

    def test_ranges(self):
        self.wrong(mill((1, 0)), [(MODES, ((1, 0), (0, 0)))], [(MODES, ((1, 1),))], [(MODES, ((1, 1), (0, 0), (0, 0)))])
        self.wrong(mill((5, 0)), [(MODES, ((5, 6), (0, 0)))], [(MODES, ((6, 6), (0, 0)))], [(MODES, ((5, 4), (0, 0)))])
        self.wrong(mill((0, 3)), [(MODES, ((0, 0), (3, 4)))], [(MODES, ((-1, 0), (3, 3)))], [(MODES, ((0, -1), (3, 3)))])
        self.wrong(mill((0, 3)), [(MODES, ((0,), (3,)))], [(MODES, (0, 3))], [(MODES, ((0, 0, 0), (3, 3)))], [(MODES, "00")])
        self.wrong([], [(MODES, ((1, 0), (0, 0)))], [(MODES, ((2, 1), (0, 3)))])
        self.wrong(mill((0, 0)), [(MODES, ((0, 0), (0, 10 ** 30)))])

    def test_ranges_that_make_up_for_each_other(self):
        # Ranges upside down would count as fewer than none.
        self.wrong(mill((0, 0)), [(MODES, ((0, 1), (0, 0))), (MODES, ((3, 1), (0, 0)))])

    def test_modes(self):
        for modes in (("shut",), ("shut", "up", "up"), ("up", "shut"), ("shut", "none"), (), "shut", None, ["shut", "up"]):
            self.wrong(mill((0, 0)), [(modes, ((0, 0), (0, 0)))])

    def test_lists_tuples_and_truths(self):
        self.wrong(self.STANDS, swapped(self.LUMPS), *retold(self.LUMPS))

    def test_any_thing_is_told_of_and_not_changed(self):
        for thing in any_things(163):
            ahead = repr(thing)
            self.assertIs(shows_lumps(MILL, self.STANDS, thing), False)
            self.assertIs(shows_lumps(MILL, [], thing), ahead == "[]")
            self.assertEqual(repr(thing), ahead)
        for thing in altered(self.LUMPS, 164):
            ahead = repr(thing)
            self.assertIs(shows_lumps(MILL, self.STANDS, thing), ahead == repr(self.LUMPS))
            self.assertEqual(repr(thing), ahead)

    def test_as_the_document_words_it(self):
        rng = random.Random(165)
        told = []
        while len(told) < 600:
            works = any_works(rng, 2, 1, 3)
            every = plain.all_stands(works)
            stands = rng.sample(every, rng.randint(1, min(len(every), 6)))
            # Single stands, some of them made one at random.
            rows = sorted([(modes, tuple([(level, level) for level in levels])) for modes, levels in stands])
            for _ in range(rng.randint(0, 5)):
                one, other = rng.choice(rows), rng.choice(rows)
                ranges = tuple([(min(a[0], b[0]), max(a[1], b[1])) for a, b in zip(one[1], other[1])])
                rows = sorted({(one[0], ranges), *[row for row in rows if row not in (one, other)]})
            told.append(plain.are_lumps(stands, rows))
            self.assertIs(shows_lumps(works, stands, rows), told[-1])
        self.assertGreater(min(told.count(True), told.count(False)), 60)


if __name__ == "__main__":
    unittest.main()
