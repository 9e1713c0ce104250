import copy
import random
import unittest

from tests import plain
from tests.samples import GREAT, LEAST, MILL, SHARED
from tests.samples import any_stand, any_things, any_works, paths, replaced, swapped
from worktwin.errors import NoSensor
from worktwin.signs import fits, is_sign, readings

SUM = (2, "eye", 7)
PART = (0, "hand", "wide")
STAND = (("wide", "down"), (4, 2))


class IsSignTest(unittest.TestCase):
    def right(self, *things):
        for thing in things:
            with self.subTest(thing):
                self.assertIs(is_sign(MILL, thing), True)

    def wrong(self, *things):
        for thing in things:
            with self.subTest(thing):
                self.assertIs(is_sign(MILL, thing), False)

    def test_signs(self):
        self.right(SUM, PART)
        self.assertIs(is_sign(works=MILL, thing=SUM), True)

    def test_beats(self):
        for sign in (SUM, PART):
            self.right(*[replaced(sign, (0,), beat) for beat in (0, 1, 8, 9, 1000, 10 ** 5000)])
            self.wrong(*[replaced(sign, (0,), beat) for beat in (-1, -8, None, "0", "", (), (0,), [0], True, False)])

    def test_sensors(self):
        for name in ("gate", "pond", "draw", "none", "", "Eye", "eye ", None, 0, (), [], ("eye",), True):
            self.wrong(replaced(SUM, (1,), name), replaced(PART, (1,), name))
        self.assertIs(is_sign(LEAST, (0, "eye", 0)), False)

    def test_readings_of_a_sum(self):
        self.right(*[(0, "rod", reading) for reading in range(41)])
        self.wrong(*[(0, "rod", reading) for reading in (-1, 41, 10 ** 30, -40, True, False, None, "4", "", (), (4,), [4])])

    def test_readings_of_a_part(self):
        self.right(*[(0, "hand", mode) for mode in ("shut", "ajar", "wide")])
        self.wrong(*[(0, "hand", mode) for mode in ("up", "down", "gate", "", "Wide", None, 0, True, (), ("wide",), ["wide"])])

    def test_readings_of_the_other_sort(self):
        self.wrong((0, "rod", "wide"), (0, "eye", "shut"), (0, "hand", 0), (0, "hand", 4))
        self.assertIs(is_sign(SHARED, (0, "part", "part")), False)
        self.assertIs(is_sign(SHARED, (0, "box", "part")), True)
        self.assertIs(is_sign(SHARED, (0, "box", "sum")), False)

    def test_more_and_fewer_things(self):
        self.wrong(SUM[:2], SUM + (1,), SUM + ((),), (), SUM[:1], SUM[1:], (SUM,))

    def test_lists_are_no_tuples(self):
        self.wrong(list(SUM), list(PART))

    def test_any_thing_is_told_of_and_not_changed(self):
        for thing in any_things(8):
            ahead = copy.deepcopy(thing)
            self.assertIs(is_sign(MILL, thing), thing == (0, "rod", 4) and isinstance(thing, tuple))
            self.assertIs(is_sign(LEAST, thing), False)
            self.assertEqual(repr(thing), repr(ahead))
        for sign in (SUM, PART):
            for path in paths(sign):
                for thing in any_things(9, 30):
                    self.assertIn(is_sign(MILL, replaced(sign, path, thing)), (True, False))

    def test_works_of_lists(self):
        handed = swapped(MILL)
        self.assertIs(is_sign(handed, SUM), True)
        self.assertIs(is_sign(handed, PART), True)
        self.assertIs(is_sign(handed, list(SUM)), False)
        self.assertIs(is_sign(handed, (0, "hand", "up")), False)
        self.assertEqual(handed, swapped(MILL))


class FitsTest(unittest.TestCase):
    def test_both_ends_of_the_slip_and_one_beyond(self):
        for slip in range(4):
            works = replaced(MILL, (5, 0, 3), slip)
            for reading in range(41):
                self.assertIs(fits(works, STAND, (1, "eye", reading)), 6 - slip <= reading <= 6 + slip)

    def test_the_boxes_of_the_sensor_alone(self):
        self.assertIs(fits(MILL, STAND, (0, "rod", 4)), True)
        self.assertIs(fits(MILL, STAND, (0, "rod", 6)), False)
        self.assertIs(fits(MILL, STAND, (0, "rod", 3)), False)
        self.assertIs(fits(MILL, STAND, (0, "rod", 5)), False)

    def test_modes(self):
        self.assertIs(fits(MILL, STAND, (0, "hand", "wide")), True)
        self.assertIs(fits(MILL, STAND, (0, "hand", "shut")), False)
        self.assertIs(fits(MILL, STAND, (0, "hand", "ajar")), False)
        stand = (("c", "a", "x", "m"), (0, 0, 0))
        self.assertIs(fits(GREAT, stand, (0, "sd", "m")), True)
        self.assertIs(fits(GREAT, stand, (0, "sd", "longmode")), False)
        self.assertIs(fits(GREAT, stand, (0, "sc", "c")), True)
        self.assertIs(fits(GREAT, stand, (0, "sc", "a")), False)

    def test_whatever_the_beat(self):
        for beat in (0, 1, 100):
            self.assertIs(fits(MILL, STAND, (beat, "rod", 4)), True)
            self.assertIs(fits(MILL, STAND, (beat, "rod", 5)), False)

    def test_lists_for_tuples_and_names(self):
        works, stand, sign = swapped(MILL), swapped(STAND), [0, "eye", 7]
        ahead = copy.deepcopy([works, stand, sign])
        self.assertIs(fits(works, stand, sign), True)
        self.assertIs(fits(works, stand, [0, "eye", 8]), False)
        self.assertIs(fits(works, stand, [0, "hand", "wide"]), True)
        self.assertEqual([works, stand, sign], ahead)
        self.assertIs(fits(works=MILL, stand=STAND, sign=SUM), True)

    def test_as_the_document_words_it(self):
        rng = random.Random(81)
        for _ in range(200):
            works = any_works(rng)
            stand = any_stand(rng, works)
            for sensor in works[5]:
                told = range(41) if sensor[1] == "sum" else dict((part[0], part[1]) for part in works[2])[sensor[2]]
                fitting = [reading for reading in told if plain.fits(works, stand, (0, sensor[0], reading))]
                self.assertEqual([one for one in told if fits(works, stand, (0, sensor[0], one))], fitting)
                self.assertEqual(readings(works, stand, sensor[0]), fitting)
                self.assertTrue(all(is_sign(works, (0, sensor[0], reading)) for reading in fitting))


class ReadingsTest(unittest.TestCase):
    def test_of_a_sum(self):
        self.assertEqual(readings(MILL, STAND, "eye"), [5, 6, 7])
        self.assertEqual(readings(MILL, STAND, "rod"), [4])

    def test_never_below_0(self):
        works = replaced(MILL, (5, 0, 3), 3)
        for pond in range(6):
            self.assertEqual(readings(works, (("shut", "up"), (pond, 0)), "eye"), list(range(max(0, pond - 3), pond + 4)))

    def test_never_above_40(self):
        # More than a works may hold, but nothing says that this is refused.
        boxes = tuple((name, 20, 0, 20) for name in "abc")
        works = ("works", boxes, (("p", ("m", "n"), ()),), (), (), (("s", "sum", ("a", "b", "c"), 3),))
        self.assertEqual(readings(works, (("m",), (20, 18, 0)), "s"), [35, 36, 37, 38, 39, 40])
        self.assertEqual(readings(works, (("m",), (20, 20, 0)), "s"), [37, 38, 39, 40])

    def test_of_a_part(self):
        self.assertEqual(readings(MILL, STAND, "hand"), ["wide"])
        self.assertEqual(readings(MILL, (("ajar", "up"), (0, 0)), "hand"), ["ajar"])

    def test_no_sensor(self):
        for name in ("", "none", "gate", "pond", "wide", "Eye", "eye ", "eye\n", "-", "e" * 5000):
            with self.subTest(name):
                with self.assertRaises(NoSensor) as caught:
                    readings(MILL, STAND, name)
                self.assertEqual(caught.exception.what, name)
        with self.assertRaises(NoSensor):
            readings(LEAST, (("m",), (0,)), "eye")

    def test_lists_for_tuples_and_own_lists(self):
        works, stand = swapped(MILL), swapped(STAND)
        for name in ("eye", "hand", "rod"):
            found = readings(works, stand, name)
            self.assertEqual(found, readings(works=MILL, stand=STAND, sensor=name))
            self.assertIs(type(found), list)
            found.clear()
            self.assertNotEqual(readings(MILL, STAND, name), [])
        self.assertEqual([works, stand], [swapped(MILL), swapped(STAND)])


if __name__ == "__main__":
    unittest.main()
