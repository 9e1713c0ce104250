import copy
import random
import unittest

from tests.samples import ALL_WORKS, GREAT, LEAST, MILL, SHARED
from tests.samples import any_things, any_works, at_path, dropped, nested, paths, replaced, swapped
from worktwin.works import is_works

NAME, BOXES, PARTS, PIPES, DEEDS, SENSORS = range(6)

WRONG_NAMES = (
    "", "ninechars", "abcdefghi", "a b", " a", "a ", "A", "aB", "a1", "1", "a_b", "a-b", "-", "a,b", "a:b", "a\n",
    "\n", "\u00e9", "\u0430", "\uff41", "\u00aa", "\u00df", "a\u0301", None, 0, 1, True, (), ("a",), ["a"], [],
)


class WorksTest(unittest.TestCase):
    def wrong(self, works, path, *worths):
        for worth in worths:
            with self.subTest(path=path, worth=worth):
                self.assertIs(is_works(replaced(works, path, worth)), False)

    def right(self, works, path, *worths):
        for worth in worths:
            with self.subTest(path=path, worth=worth):
                self.assertIs(is_works(replaced(works, path, worth)), True)

    def test_works(self):
        for works in ALL_WORKS:
            self.assertIs(is_works(works), True)
            self.assertIs(is_works(thing=works), True)

    def test_six_things(self):
        for works in ALL_WORKS:
            for at in range(6):
                self.assertIs(is_works(dropped(works, (at,))), False)
            self.assertIs(is_works(works + ((),)), False)
            self.assertIs(is_works(works + (None,)), False)
        self.assertIs(is_works(()), False)

    def test_names(self):
        for path in ((NAME,), (BOXES, 0, 0), (PARTS, 0, 0), (DEEDS, 0, 0), (SENSORS, 0, 0), (PARTS, 1, 1, 0)):
            self.wrong(MILL, path, *WRONG_NAMES)
        self.right(MILL, (NAME,), "a", "z", "abcdefgh", "zzzzzzzz", "wait", "works", "box", "mill")
        self.right(LEAST, (BOXES, 0, 0), "a", "z", "abcdefgh")
        self.right(LEAST, (PARTS, 0, 0), "a", "z", "abcdefgh")
        self.right(LEAST, (PARTS, 0, 1, 0), "a", "z", "abcdefgh")
        self.right(MILL, (DEEDS, 0, 0), "a", "cz", "abcdefgh")
        self.right(MILL, (SENSORS, 0, 0), "a", "ez", "abcdefgh")

    def test_how_many_boxes(self):
        boxes = tuple([(name, 2, 1, 1) for name in "abcd"])
        self.right(LEAST, (BOXES,), boxes[:1], boxes[:2], boxes[:3])
        self.wrong(LEAST, (BOXES,), (), boxes)

    def test_how_many_parts(self):
        parts = tuple([(name, ("m", "n"), ()) for name in "abcde"])
        self.right(LEAST, (PARTS,), parts[:1], parts[:2], parts[:3], parts[:4])
        self.wrong(LEAST, (PARTS,), (), parts)

    def test_how_many_pipes(self):
        pipe = ("", "b", "p", "m", 0, 1)
        self.right(LEAST, (PIPES,), (), (pipe,), (pipe,) * 5)
        self.wrong(LEAST, (PIPES,), (pipe,) * 6)

    def test_how_many_deeds(self):
        deeds = tuple([(name, (("p", "m"),)) for name in "abcde"])
        self.right(LEAST, (DEEDS,), (), deeds[:1], deeds[:4])
        self.wrong(LEAST, (DEEDS,), deeds)

    def test_how_many_sensors(self):
        sensors = tuple([(name, "part", "p") for name in "abcdef"])
        self.right(LEAST, (SENSORS,), (), sensors[:1], sensors[:5])
        self.wrong(LEAST, (SENSORS,), sensors)
        sums = tuple([(name, "sum", ("b",), 0) for name in "abcdef"])
        self.right(LEAST, (SENSORS,), sums[:5])
        self.wrong(LEAST, (SENSORS,), sums)

    def test_boxes(self):
        self.right(LEAST, (BOXES, 0), ("b", 1, 0, 0), ("b", 1, 0, 1), ("b", 1, 1, 1), ("b", 9, 0, 9), ("b", 9, 9, 9))
        self.wrong(LEAST, (BOXES, 0), ("b", 0, 0, 0), ("b", -1, 0, 0), ("b", 10, 0, 0), ("b", 10, 0, 10))
        self.wrong(LEAST, (BOXES, 0), ("b", 5, -1, 2), ("b", 5, 3, 2), ("b", 5, 0, 6), ("b", 5, 6, 6), ("b", 5, -1, -1))
        self.wrong(LEAST, (BOXES, 0), ("b", 1, 0), ("b", 1, 0, 0, 0), (), None, "b", 3, ("b",))
        for at in (1, 2, 3):
            self.wrong(LEAST, (BOXES, 0, at), None, "1", "0", (), (0,), [0])

    def test_what_must_rise(self):
        for kind in (BOXES, PARTS, DEEDS, SENSORS):
            rows = MILL[kind]
            self.wrong(MILL, (kind,), rows[::-1], rows + rows[-1:], rows[:1] + rows[:1])
            self.wrong(MILL, (kind, 1, 0), rows[0][0])
        self.right(MILL, (PIPES,), MILL[PIPES][::-1], MILL[PIPES] + MILL[PIPES][:1])

    def test_names_twice_though_rows_rise(self):
        self.wrong(LEAST, (BOXES,), (("b", 1, 0, 0), ("b", 2, 0, 0)))
        self.wrong(LEAST, (PARTS,), (("p", ("m", "n"), ()), ("p", ("n", "m"), ())))
        self.wrong(LEAST, (DEEDS,), (("d", (("p", "m"),)), ("d", (("p", "n"),))))
        self.wrong(LEAST, (SENSORS,), (("s", "part", "p"), ("s", "sum", ("b",), 0)))

    def test_modes(self):
        self.right(LEAST, (PARTS, 0, 1), ("m", "n"), ("n", "m"), ("c", "a", "b"))
        self.wrong(LEAST, (PARTS, 0, 1), (), ("m",), ("a", "b", "c", "d"), ("m", "m"), ("a", "b", "a"), "mn", None)
        self.wrong(LEAST, (PARTS, 0), ("p", ("m", "n")), ("p", ("m", "n"), (), ()), ("p",), "p", None)

    def test_odd_modes(self):
        part = replaced(LEAST, (PARTS, 0, 1), ("c", "a", "b"))
        self.right(part, (PARTS, 0, 2), (), ("a",), ("a", "b"), ("b", "c"), ("a", "b", "c"))
        self.wrong(part, (PARTS, 0, 2), ("c", "a"), ("a", "a"), ("d",), ("a", "d"), ("",), "", "a", None, ((),), (0,))

    def test_pipe_ends(self):
        pipe = ("pond", "race", "gate", "ajar", 1, 1)
        self.right(MILL, (PIPES, 0), pipe, replaced(pipe, (0,), ""), replaced(pipe, (1,), ""))
        self.right(MILL, (PIPES, 0), ("race", "pond", "gate", "ajar", 1, 1))
        for both in ("", "pond", "race", "gate", "none", None, 0, ()):
            self.wrong(MILL, (PIPES, 0), (both, both, "gate", "ajar", 1, 1))
        for end in ("gate", "none", "-", None, 0, False, (), [], ("pond",)):
            self.wrong(MILL, (PIPES, 0, 0), end)
            self.wrong(MILL, (PIPES, 0, 1), end)

    def test_pipe_part_and_mode(self):
        self.right(MILL, (PIPES, 0, 3), "shut", "ajar", "wide")
        self.wrong(MILL, (PIPES, 0, 2), "pond", "none", "", None, 0, (), [], "weir")
        self.wrong(MILL, (PIPES, 0, 3), "up", "gate", "none", "", None, 0, (), [])

    def test_pipe_amounts(self):
        for least, most in ((0, 0), (0, 1), (0, 2), (7, 9), (8, 9), (9, 9), (4, 6)):
            self.right(MILL, (PIPES, 0), ("pond", "race", "gate", "ajar", least, most))
        for least, most in ((-1, 0), (-1, 1), (0, 3), (2, 1), (1, 0), (9, 10), (8, 10), (10, 10), (6, 9), (-2, -1)):
            self.wrong(MILL, (PIPES, 0), ("pond", "race", "gate", "ajar", least, most))
        for at in (4, 5):
            self.wrong(MILL, (PIPES, 0, at), None, "1", (), [1])

    def test_pipe_has_six_things(self):
        pipe = MILL[PIPES][0]
        self.wrong(MILL, (PIPES, 0), pipe[:5], pipe + (1,), (), None, "pipe")

    def test_deeds(self):
        self.wrong(MILL, (DEEDS,), (("wait", (("gate", "shut"),)),))
        self.right(MILL, (DEEDS,), (("waits", (("gate", "shut"),)),), (("pond", (("weir", "up"),)),))
        self.wrong(MILL, (DEEDS, 0), ("close",), ("close", (("gate", "shut"),), ()), (), None, "close")

    def test_sets(self):
        right = (("gate", "shut"), ("weir", "up"))
        self.right(MILL, (DEEDS, 0, 1), right, right[:1], right[1:])
        self.wrong(MILL, (DEEDS, 0, 1), (), right[::-1], right + right[1:], right[:1] * 2, None, "gate", right[0])
        self.wrong(MILL, (DEEDS, 0, 1), (("gate", "ajar"), ("gate", "shut")))
        self.wrong(MILL, (DEEDS, 0, 1, 0), ("gate", "up"), ("pond", "shut"), ("none", "shut"), ("gate", "none"))
        self.wrong(MILL, (DEEDS, 0, 1, 0), ("gate",), ("gate", "shut", "shut"), (), None, "gate", ("gate", None), (0, 0))
        self.wrong(MILL, (DEEDS, 0, 1, 0), ("", ""), ([], "shut"), ("gate", ["shut"]), ("gate", ("shut",)))

    def test_sum_sensors(self):
        self.right(MILL, (SENSORS, 0, 2), ("pond",), ("race",), ("pond", "race"))
        self.wrong(MILL, (SENSORS, 0, 2), (), ("race", "pond"), ("pond", "pond"), ("gate",), ("",), "pond", None, (0,))
        self.right(MILL, (SENSORS, 0, 3), 0, 1, 2, 3)
        self.wrong(MILL, (SENSORS, 0, 3), -1, 4, None, "1", (), [1])
        self.wrong(MILL, (SENSORS, 0, 1), "part", "Sum", "", None, 0)

    def test_part_sensors(self):
        self.right(MILL, (SENSORS, 1, 2), "gate", "weir")
        self.wrong(MILL, (SENSORS, 1, 2), "pond", "shut", "none", "", None, 0, (), ("gate",), [])
        self.wrong(MILL, (SENSORS, 1, 1), "sum", "Part", "", None, 0)

    def test_sensors_of_both_sorts(self):
        self.wrong(MILL, (SENSORS, 0), ("eye", "part", "gate", 1), ("eye", "part", ("pond",), 1))
        self.wrong(MILL, (SENSORS, 0), ("eye", "sum", ("pond",)), ("eye", "sum", "gate"), ("eye", "sum"), ("eye",))
        self.wrong(MILL, (SENSORS, 0), ("eye", "sum", ("pond",), 1, "gate"), ("eye", "part", "gate", ()), (), None)

    def test_names_shared_between_kinds(self):
        self.assertIs(is_works(SHARED), True)
        one = ("a", (("a", 1, 0, 0),), (("a", ("a", "b"), ("a",)),), (), (("a", (("a", "a"),)),), (("a", "part", "a"),))
        self.assertIs(is_works(one), True)
        self.right(LEAST, (PARTS,), (("p", ("m", "n"), ()), ("q", ("m", "n"), ())))

    def test_truths_are_no_numbers(self):
        ones = ("a", (("b", 1, 0, 1),), (("p", ("m", "n"), ()),), (("", "b", "p", "m", 0, 1),), (), (("s", "sum", ("b",), 1),))
        self.assertIs(is_works(ones), True)
        for works in (ones, MILL):
            for path in paths(works):
                if isinstance(at_path(works, path), int):
                    self.wrong(works, path, True, False)

    def test_lists_are_no_tuples_at_any_depth(self):
        for works in ALL_WORKS:
            for path in paths(works):
                if isinstance(at_path(works, path), tuple):
                    self.wrong(works, path, list(at_path(works, path)))
            self.assertIs(is_works(swapped(works)), False)

    def test_anything_at_any_place(self):
        things = [None, True, "", "zz", -1, 10, (), [], ("a",), nested(5)]
        for path in paths(SHARED):
            for thing in things:
                self.assertIn(is_works(replaced(SHARED, path, thing)), (True, False))

    def test_any_thing_is_told_of_and_not_changed(self):
        for thing in any_things(4):
            ahead = copy.deepcopy(thing)
            self.assertIs(is_works(thing), False, thing)
            self.assertEqual(repr(thing), repr(ahead))

    def test_any_works(self):
        rng = random.Random(41)
        for _ in range(200):
            self.assertIs(is_works(any_works(rng, 3, 4, 7)), True)

    def test_greatest_and_one_more_of_each(self):
        for path in paths(GREAT):
            if isinstance(at_path(GREAT, path), int) and at_path(GREAT, path) == 9:
                self.wrong(GREAT, path, 10)


if __name__ == "__main__":
    unittest.main()
