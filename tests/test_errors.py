import unittest

from rangekeep import errors
from rangekeep.errors import RangekeepError

NAMES = ["InvalidCode", "InvalidBits", "InvalidFrame", "InvalidOrbit", "TooMany", "InvalidScript"]


class ErrorsTest(unittest.TestCase):
    def test_the_base_is_a_value_error(self):
        self.assertEqual(RangekeepError.__bases__, (ValueError,))

    def test_each_class_is_derived_from_the_base_alone(self):
        for name in NAMES:
            with self.subTest(name):
                self.assertEqual(getattr(errors, name).__bases__, (RangekeepError,))

    def test_each_error_has_its_place(self):
        for name in ["RangekeepError"] + NAMES:
            for place in (0, 7, -3):
                with self.subTest(name=name, place=place):
                    self.assertEqual(getattr(errors, name)(place).place, place)

    def test_an_error_is_caught_as_the_base_and_not_as_another_one(self):
        for name in NAMES:
            with self.subTest(name):
                with self.assertRaises(RangekeepError) as caught:
                    raise getattr(errors, name)(5)
                self.assertEqual(caught.exception.place, 5)
                others = [getattr(errors, other) for other in NAMES if other != name]
                self.assertNotIsInstance(caught.exception, tuple(others))


if __name__ == "__main__":
    unittest.main()
