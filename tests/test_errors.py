"""The interface's row of latebells/errors.py."""

import unittest

from latebells import errors

BELOW = ("Early", "NoClock", "Asleep", "Awake", "NoText", "Taken", "NoStep")


class Errors(unittest.TestCase):
    def test_ring_error_stands_under_value_error(self):
        self.assertEqual(errors.RingError.__bases__, (ValueError,))

    def test_each_refusal_stands_right_below_ring_error(self):
        for name in BELOW:
            with self.subTest(name):
                refusal = getattr(errors, name)
                self.assertTrue(issubclass(refusal, errors.RingError))
                self.assertEqual(refusal.__name__, name)

    def test_none_stands_below_another(self):
        for one in BELOW:
            for other in BELOW:
                if one != other:
                    with self.subTest((one, other)):
                        self.assertFalse(issubclass(getattr(errors, one), getattr(errors, other)))

    def test_each_can_be_raised_and_taken(self):
        for name in BELOW:
            with self.subTest(name), self.assertRaises(errors.RingError):
                raise getattr(errors, name)("words")


if __name__ == "__main__":
    unittest.main()
