"""The classes of refusals."""

import unittest

from tentloops import errors

NAMES = (
    "NoTent NoPlace NoSeam Rim Locked NoWay NoThread NoCounts Uneven Wide TooMany NoWorths NoFraction "
    "TooGreat NotAlike BadName Taken Unknown NoDeed BadOrder"
).split()


class ErrorsTest(unittest.TestCase):

    def test_tent_error_is_a_value_error(self):
        self.assertEqual(errors.TentError.__bases__, (ValueError,))

    def test_each_is_straight_under_tent_error(self):
        for name in NAMES:
            with self.subTest(name):
                self.assertEqual(getattr(errors, name).__bases__, (errors.TentError,))
                self.assertTrue(issubclass(getattr(errors, name), ValueError))

    def test_each_is_a_class_of_its_own(self):
        classes = [getattr(errors, name) for name in NAMES]
        self.assertEqual(len(set(classes)), 20)
        self.assertEqual([one.__name__ for one in classes], NAMES)
        self.assertEqual({one.__module__ for one in classes}, {"tentloops.errors"})

    def test_each_can_be_raised_and_caught_by_name(self):
        for name in NAMES:
            kind = getattr(errors, name)
            with self.subTest(name), self.assertRaises(kind):
                raise kind("why")


if __name__ == "__main__":
    unittest.main()
