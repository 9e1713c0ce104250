import copy
import itertools
import random
import unittest

from tests.samples import ALL_WORKS, GREAT, LEAST, MILL, SHARED
from tests.samples import any_stand, any_things, any_works, at_path, paths, replaced, swapped
from worktwin.stands import begin_stands, is_stand

STAND = (("wide", "down"), (2, 1))


class IsStandTest(unittest.TestCase):
    def right(self, *things):
        for thing in things:
            with self.subTest(thing):
                self.assertIs(is_stand(MILL, thing), True)

    def wrong(self, *things):
        for thing in things:
            with self.subTest(thing):
                self.assertIs(is_stand(MILL, thing), False)

    def test_stands(self):
        self.right(STAND)
        self.assertIs(is_stand(works=MILL, thing=STAND), True)
        for modes in itertools.product(("shut", "ajar", "wide"), ("up", "down")):
            for levels in itertools.product(range(6), range(4)):
                self.assertIs(is_stand(MILL, (modes, levels)), True)

    def test_levels_at_bounds_and_beyond(self):
        modes = STAND[0]
        self.right((modes, (0, 0)), (modes, (5, 3)), (modes, (0, 3)), (modes, (5, 0)))
        self.wrong((modes, (6, 3)), (modes, (5, 4)), (modes, (-1, 0)), (modes, (0, -1)), (modes, (10 ** 30, 0)))

    def test_modes_of_another_part(self):
        levels = STAND[1]
        self.wrong((("up", "down"), levels), (("wide", "wide"), levels), (("down", "wide"), levels))
        self.wrong((("gate", "weir"), levels), (("", ""), levels), (("WIDE", "down"), levels), (("wid", "down"), levels))

    def test_too_few_and_too_many(self):
        modes, levels = STAND
        self.wrong((modes,), (modes, levels, ()), (), (levels, modes))
        self.wrong((modes[:1], levels), (modes + ("up",), levels), ((), levels))
        self.wrong((modes, levels[:1]), (modes, levels + (0,)), (modes, ()))

    def test_truths_and_other_kinds(self):
        modes, levels = STAND
        self.wrong((modes, (True, 1)), (modes, (1, True)), (modes, (False, 1)), (modes, (2, False)))
        self.wrong((modes, (None, 1)), (modes, ("2", 1)), (modes, ((2,), 1)), (modes, None), (None, levels))
        self.wrong(((None, "down"), levels), ((0, "down"), levels), ((("wide",), "down"), levels), ("wd", levels))

    def test_lists_are_no_tuples(self):
        for path in paths(STAND):
            if isinstance(at_path(STAND, path), tuple):
                self.wrong(replaced(STAND, path, list(at_path(STAND, path))))
        self.wrong(swapped(STAND))

    def test_any_thing_is_told_of_and_not_changed(self):
        for works in (MILL, LEAST):
            for thing in any_things(6):
                ahead = copy.deepcopy(thing)
                self.assertIs(is_stand(works, thing), False)
                self.assertEqual(repr(thing), repr(ahead))

    def test_works_of_lists(self):
        handed = swapped(MILL)
        ahead = copy.deepcopy(handed)
        self.assertIs(is_stand(handed, STAND), True)
        self.assertIs(is_stand(handed, swapped(STAND)), False)
        self.assertIs(is_stand(handed, (("wide", "down"), (6, 1))), False)
        self.assertEqual(handed, ahead)

    def test_stands_of_any_works(self):
        rng = random.Random(61)
        for _ in range(100):
            works = any_works(rng)
            stand = any_stand(rng, works)
            self.assertIs(is_stand(works, stand), True)
            at = rng.randrange(len(works[1]))
            self.assertIs(is_stand(works, replaced(stand, (1, at), works[1][at][1] + 1)), False)


class BeginStandsTest(unittest.TestCase):
    def test_what_is_told(self):
        self.assertEqual(begin_stands(MILL), [(("shut", "up"), (3, 0)), (("shut", "up"), (4, 0))])
        self.assertEqual(begin_stands(works=LEAST), [(("m",), (0,))])
        self.assertEqual(
            begin_stands(SHARED),
            [(("box", "part"), (one, 1, two)) for one in range(4) for two in range(2)],
        )
        self.assertEqual(begin_stands(GREAT), [(("c", "c", "x", "longmode"), (9, level, 0)) for level in range(10)])

    def test_both_bounds(self):
        works = replaced(LEAST, (1,), (("b", 9, 2, 4), ("c", 9, 7, 7)))
        self.assertEqual(begin_stands(works), [(("m",), (2, 7)), (("m",), (3, 7)), (("m",), (4, 7))])
        works = replaced(LEAST, (1,), (("b", 9, 0, 9), ("c", 9, 0, 9), ("d", 9, 0, 9)))
        self.assertEqual(len(begin_stands(works)), 1000)

    def test_rising_and_each_a_stand(self):
        rng = random.Random(62)
        for works in [*ALL_WORKS, *[any_works(rng) for _ in range(50)]]:
            found = begin_stands(works)
            self.assertIs(type(found), list)
            self.assertEqual(found, sorted(set(found)))
            self.assertTrue(all(is_stand(works, stand) for stand in found))
            many = 1
            for _, _, low, high in works[1]:
                many *= high - low + 1
            self.assertEqual(len(found), many)

    def test_lists_for_tuples(self):
        for works in ALL_WORKS:
            handed = swapped(works)
            ahead = copy.deepcopy(handed)
            self.assertEqual(begin_stands(handed), begin_stands(works))
            self.assertTrue(all(is_stand(works, stand) for stand in begin_stands(handed)))
            self.assertEqual(handed, ahead)

    def test_the_told_list_is_the_askers_own(self):
        found = begin_stands(MILL)
        found.append("more")
        del found[0]
        self.assertEqual(begin_stands(MILL), [(("shut", "up"), (3, 0)), (("shut", "up"), (4, 0))])
        self.assertIsNot(begin_stands(MILL), begin_stands(MILL))

    def test_handed_in_is_not_kept(self):
        handed = swapped(MILL)
        begin_stands(handed)
        handed[1][0][3] = 3
        self.assertEqual(begin_stands(handed), [(("shut", "up"), (3, 0))])


if __name__ == "__main__":
    unittest.main()
