import copy
import random
import unittest

from tests import plain
from tests.samples import GREAT, LEAST, MILL, any_deed, any_lot, any_stand, any_works, replaced, swapped
from worktwin.beats import behind, expected
from worktwin.errors import NoDeed
from worktwin.stands import is_stand

SHUT = (("shut", "up"), (2, 0))

NO_DEEDS = (
    "", "none", "gate", "weir", "pond", "shut", "mill", "eye", "Wait", "wait ", " wait", "waits", "draws", "Draw",
    "draw\n", "close draw", "-", "\u00e9", "d" * 5000,
)


def piped(*pipes, boxes=(("a", 9, 0, 0), ("b", 9, 0, 0))):
    """A works of one part that stands in its first mode, where all these pipes flow."""
    full = [(source, goal, "p", "on", least, most) for source, goal, least, most in pipes]
    return ("works", boxes, (("p", ("on", "off"), ()),), tuple(full), (), ())


def levels_behind(works, levels):
    return [found for modes, found in behind(works, (("on",), levels), "wait")]


class BehindTest(unittest.TestCase):
    def test_wait(self):
        # The weir is up: 0 or 1 flows into the pond.
        self.assertEqual(behind(MILL, SHUT, "wait"), [(("shut", "up"), (2, 0)), (("shut", "up"), (3, 0))])
        self.assertEqual(behind(MILL, (("shut", "up"), (5, 1)), "wait"), [(("shut", "up"), (5, 1))])

    def test_due_modes(self):
        # 1, 2 or 3 cut to 2 flow into the race, then 0, 1 or 2, cut to what it holds, out of it.
        modes = ("wide", "down")
        self.assertEqual(
            behind(MILL, SHUT, "draw"),
            [(modes, (0, 0)), (modes, (0, 1)), (modes, (0, 2)), (modes, (1, 0)), (modes, (1, 1))],
        )
        # What the deed does not set stands as it stood.
        self.assertEqual(behind(MILL, (("shut", "down"), (2, 0)), "ease"), [(("ajar", "down"), (1, 0)), (("ajar", "down"), (1, 1))])
        self.assertEqual(behind(MILL, (("wide", "up"), (2, 0)), "ease"), [(("ajar", "up"), (1, 1)), (("ajar", "up"), (2, 1))])

    def test_a_part_that_acts_otherwise_with_an_odd_mode(self):
        # The gate, due to stand wide, stood shut, has the odd mode ajar.
        self.assertEqual(
            behind(MILL, SHUT, "draw", lot=("gate",)),
            [
                (("ajar", "down"), (1, 0)),
                (("ajar", "down"), (1, 1)),
                (("shut", "down"), (2, 0)),
                (("wide", "down"), (0, 0)),
                (("wide", "down"), (0, 1)),
                (("wide", "down"), (0, 2)),
                (("wide", "down"), (1, 0)),
                (("wide", "down"), (1, 1)),
            ],
        )

    def test_a_part_that_acts_otherwise_without_odd_modes(self):
        # The weir may stay up, where it stood.
        self.assertEqual(
            behind(MILL, SHUT, "draw", lot=("weir",)),
            [
                (("wide", "down"), (0, 0)),
                (("wide", "down"), (0, 1)),
                (("wide", "down"), (0, 2)),
                (("wide", "down"), (1, 0)),
                (("wide", "down"), (1, 1)),
                (("wide", "up"), (0, 2)),
                (("wide", "up"), (1, 1)),
                (("wide", "up"), (1, 2)),
                (("wide", "up"), (2, 1)),
            ],
        )
        self.assertEqual(behind(MILL, SHUT, "wait", lot=("weir",)), behind(MILL, SHUT, "wait"))

    def test_odd_modes_come_by_wait_too(self):
        self.assertEqual(
            behind(MILL, SHUT, "wait", lot=("gate",)),
            [(("ajar", "up"), (1, 1)), (("ajar", "up"), (2, 1)), (("shut", "up"), (2, 0)), (("shut", "up"), (3, 0))],
        )

    def test_all_parts_act_otherwise(self):
        found = {modes for modes, levels in behind(MILL, SHUT, "draw", lot=("gate", "weir"))}
        self.assertEqual(found, {(gate, weir) for gate in ("ajar", "shut", "wide") for weir in ("down", "up")})

    def test_an_odd_mode_is_for_the_lot_alone(self):
        found = {modes for modes, levels in behind(GREAT, (("c", "c", "y", "m"), (5, 5, 5)), "wait", lot=("pc",))}
        self.assertEqual(found, {("c", "c", mode, "m") for mode in "xyz"})
        found = {modes for modes, levels in behind(GREAT, (("c", "c", "y", "m"), (5, 5, 5)), "db", lot=("pb", "pd"))}
        self.assertEqual(found, {("b", mode, "y", "m") for mode in "ac"})

    def test_each_amount(self):
        works = piped(("a", "b", 2, 4))
        self.assertEqual(levels_behind(works, (9, 0)), [(5, 4), (6, 3), (7, 2)])
        works = piped(("a", "b", 3, 3))
        self.assertEqual(levels_behind(works, (9, 0)), [(6, 3)])
        works = piped(("a", "b", 0, 0))
        self.assertEqual(levels_behind(works, (9, 0)), [(9, 0)])

    def test_a_source_that_holds_less(self):
        works = piped(("a", "b", 2, 4))
        self.assertEqual(levels_behind(works, (4, 0)), [(0, 4), (1, 3), (2, 2)])
        self.assertEqual(levels_behind(works, (3, 0)), [(0, 3), (1, 2)])
        self.assertEqual(levels_behind(works, (1, 0)), [(0, 1)])
        self.assertEqual(levels_behind(works, (0, 0)), [(0, 0)])

    def test_a_goal_with_less_room(self):
        works = piped(("a", "b", 2, 4), boxes=(("a", 9, 0, 0), ("b", 5, 0, 0)))
        self.assertEqual(levels_behind(works, (9, 1)), [(5, 5), (6, 4), (7, 3)])
        self.assertEqual(levels_behind(works, (9, 2)), [(6, 5), (7, 4)])
        self.assertEqual(levels_behind(works, (9, 4)), [(8, 5)])
        self.assertEqual(levels_behind(works, (9, 5)), [(9, 5)])
        self.assertEqual(levels_behind(works, (1, 3)), [(0, 4)])

    def test_pipes_from_and_to_without(self):
        works = piped(("", "a", 2, 4))
        self.assertEqual(levels_behind(works, (6, 0)), [(8, 0), (9, 0)])
        self.assertEqual(levels_behind(works, (0, 7)), [(2, 7), (3, 7), (4, 7)])
        works = piped(("b", "", 2, 4))
        self.assertEqual(levels_behind(works, (6, 3)), [(6, 0), (6, 1)])
        self.assertEqual(levels_behind(works, (0, 9)), [(0, 5), (0, 6), (0, 7)])

    def test_a_pipe_behind_another_that_changes_what_it_may_move(self):
        # b holds nothing, until the first pipe has filled it.
        self.assertEqual(levels_behind(piped(("a", "b", 2, 3), ("b", "", 1, 1)), (5, 0)), [(2, 2), (3, 1)])
        # b has no room, until the first pipe has emptied it.
        boxes = (("a", 9, 0, 0), ("b", 2, 0, 0))
        self.assertEqual(levels_behind(piped(("b", "", 2, 2), ("a", "b", 1, 1), boxes=boxes), (5, 2)), [(4, 1)])

    def test_pipes_in_the_other_order(self):
        self.assertEqual(levels_behind(piped(("b", "", 1, 1), ("a", "b", 2, 3)), (5, 0)), [(2, 3), (3, 2)])
        boxes = (("a", 9, 0, 0), ("b", 2, 0, 0))
        self.assertEqual(levels_behind(piped(("a", "b", 1, 1), ("b", "", 2, 2), boxes=boxes), (5, 2)), [(5, 0)])

    def test_a_pipe_twice(self):
        self.assertEqual(levels_behind(piped(("a", "b", 1, 2), ("a", "b", 1, 2)), (9, 0)), [(5, 4), (6, 3), (7, 2)])

    def test_pipes_of_other_modes_rest(self):
        works = piped(("a", "b", 1, 2))
        self.assertEqual(behind(works, (("off",), (4, 0)), "wait"), [(("off",), (4, 0))])

    def test_flows_go_by_the_modes_behind_the_deed(self):
        self.assertEqual(behind(MILL, (("wide", "down"), (0, 3)), "close"), [(("shut", "up"), (0, 3)), (("shut", "up"), (1, 3))])

    def test_names_of_arguments(self):
        self.assertEqual(behind(works=MILL, stand=SHUT, deed="draw", lot=()), behind(MILL, SHUT, "draw"))
        with self.assertRaises(TypeError):
            behind(MILL, SHUT, "draw", ())

    def test_no_deed(self):
        for deed in NO_DEEDS:
            for ask in (behind, expected):
                with self.subTest(deed):
                    with self.assertRaises(NoDeed) as caught:
                        ask(MILL, SHUT, deed)
                    self.assertEqual(caught.exception.what, deed)
        with self.assertRaises(NoDeed):
            behind(MILL, SHUT, "none", lot=("gate",))
        with self.assertRaises(NoDeed):
            behind(LEAST, (("m",), (0,)), "draw")

    def test_lists_for_tuples(self):
        for lot in ((), ("gate",), ("gate", "weir")):
            works, stand, other = swapped(MILL), swapped(SHUT), list(lot)
            ahead = copy.deepcopy([works, stand, other])
            found = behind(works, stand, "draw", lot=other)
            self.assertEqual(found, behind(MILL, SHUT, "draw", lot=lot))
            self.assertTrue(all(is_stand(MILL, one) for one in found))
            self.assertEqual([works, stand, other], ahead)

    def test_the_told_list_is_the_askers_own(self):
        found = behind(MILL, SHUT, "draw")
        again = list(found)
        found.clear()
        self.assertEqual(behind(MILL, SHUT, "draw"), again)

    def test_as_the_document_words_it(self):
        rng = random.Random(71)
        for _ in range(300):
            works = any_works(rng)
            stand, deed, lot = any_stand(rng, works), any_deed(rng, works), any_lot(rng, works)
            found = behind(works, stand, deed, lot=lot)
            self.assertEqual(found, plain.behind(works, stand, deed, lot))
            self.assertIs(type(found), list)
            self.assertEqual(found, sorted(set(found)))
            self.assertTrue(all(is_stand(works, one) for one in found))


class ExpectedTest(unittest.TestCase):
    def test_half_of_least_and_most(self):
        # 2 flow into the race, then 1 out of it.
        self.assertEqual(expected(MILL, (("shut", "up"), (4, 0)), "draw"), (("wide", "down"), (2, 1)))
        self.assertEqual(expected(MILL, (("shut", "up"), (4, 0)), "wait"), (("shut", "up"), (4, 0)))

    def test_rounded_down(self):
        for least, most, half in ((0, 0, 0), (0, 1, 0), (0, 2, 1), (1, 2, 1), (2, 3, 2), (1, 3, 2), (4, 5, 4), (3, 3, 3)):
            works = piped(("a", "b", least, most))
            self.assertEqual(expected(works, (("on",), (9, 0)), "wait"), (("on",), (9 - half, half)))

    def test_cut_likewise(self):
        works = piped(("a", "b", 2, 4), boxes=(("a", 9, 0, 0), ("b", 5, 0, 0)))
        self.assertEqual(expected(works, (("on",), (1, 0)), "wait"), (("on",), (0, 1)))
        self.assertEqual(expected(works, (("on",), (9, 4)), "wait"), (("on",), (8, 5)))
        # 3 is cut to 2: the half is taken of the amounts, not of what is left of them.
        self.assertEqual(expected(works, (("on",), (2, 0)), "wait"), (("on",), (0, 2)))
        self.assertEqual(expected(piped(("a", "b", 2, 3), ("b", "", 1, 1)), (("on",), (5, 0)), "wait"), (("on",), (3, 1)))

    def test_no_part_acts_otherwise(self):
        self.assertEqual(expected(MILL, SHUT, "wait")[0], ("shut", "up"))
        self.assertEqual(expected(MILL, SHUT, "close")[0], ("shut", "up"))
        self.assertEqual(expected(MILL, SHUT, "ease")[0], ("ajar", "up"))

    def test_lists_for_tuples(self):
        works, stand = swapped(MILL), swapped(SHUT)
        ahead = copy.deepcopy([works, stand])
        for deed in ("wait", "draw", "ease", "close"):
            self.assertEqual(expected(works, stand, deed), expected(MILL, SHUT, deed))
            self.assertTrue(is_stand(MILL, expected(works, stand, deed)))
        self.assertEqual([works, stand], ahead)
        self.assertEqual(expected(works=MILL, stand=SHUT, deed="wait"), (("shut", "up"), (2, 0)))

    def test_it_is_among_behind(self):
        rng = random.Random(72)
        for _ in range(300):
            works = any_works(rng)
            stand, deed = any_stand(rng, works), any_deed(rng, works)
            found = expected(works, stand, deed)
            self.assertIn(found, behind(works, stand, deed))
            amounts = [(pipe[4] + pipe[5]) // 2 for pipe in works[3]]
            self.assertEqual(found[1], plain.flow(works, found[0], stand[1], amounts))

    def test_a_works_of_no_pipes(self):
        for deed, modes in (("wait", ("c", "a", "y", "m")), ("dc", ("c", "a", "y", "m")), ("db", ("b", "a", "y", "m"))):
            works = replaced(GREAT, (3,), ())
            self.assertEqual(expected(works, (("c", "a", "y", "m"), (1, 2, 3)), deed), (modes, (1, 2, 3)))


if __name__ == "__main__":
    unittest.main()
