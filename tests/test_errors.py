import unittest

from worktwin import errors

UNDER = {
    "BadRow": ValueError,
    "BadText": ValueError,
    "BadReading": ValueError,
    "NoDeed": LookupError,
    "NoBeat": LookupError,
    "NoSensor": LookupError,
    "NoBox": LookupError,
    "NoTwin": LookupError,
    "NoRun": RuntimeError,
    "Unlike": RuntimeError,
    "Known": RuntimeError,
    "Busy": RuntimeError,
    "TooMany": OverflowError,
}

REFUSED = (
    0, 3, -1, 10 ** 5000, "", "text", "two\nrows", ("a", "b"), (), [], [1, [2]], None, True,
)


class ErrorsTest(unittest.TestCase):
    def test_thirteen_classes(self):
        found = [name for name, one in vars(errors).items() if isinstance(one, type)]
        self.assertEqual(sorted(found), sorted(UNDER))
        self.assertEqual(len(found), 13)

    def test_each_is_straight_under_its_own(self):
        for name, base in UNDER.items():
            with self.subTest(name):
                self.assertEqual(getattr(errors, name).__bases__, (base,))

    def test_each_is_defined_in_its_file(self):
        for name in UNDER:
            with self.subTest(name):
                self.assertEqual(getattr(errors, name).__module__, "worktwin.errors")
                self.assertEqual(getattr(errors, name).__name__, name)

    def test_none_is_under_another(self):
        for name in UNDER:
            for other in UNDER:
                if name != other:
                    self.assertFalse(issubclass(getattr(errors, name), getattr(errors, other)), (name, other))

    def test_field_what(self):
        for name in UNDER:
            for what in REFUSED:
                with self.subTest(name):
                    refusal = getattr(errors, name)(what)
                    self.assertIs(refusal.what, what)
                    self.assertEqual(vars(refusal), {"what": what})
                    self.assertIs(getattr(errors, name)(what=what).what, what)

    def test_made_with_just_one_thing(self):
        for name in UNDER:
            with self.subTest(name):
                self.assertRaises(TypeError, getattr(errors, name))
                self.assertRaises(TypeError, getattr(errors, name), 1, 2)

    def test_raised_and_caught_by_its_base(self):
        for name, base in UNDER.items():
            with self.subTest(name):
                with self.assertRaises(base) as caught:
                    raise getattr(errors, name)("x")
                self.assertEqual(caught.exception.what, "x")


if __name__ == "__main__":
    unittest.main()
