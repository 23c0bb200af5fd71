import unittest

from seatclocks import errors

REFUSALS = [
    "NoFraction", "NoHap", "NoText", "NoSpeed", "TooMany", "NotPlain", "NoStretch", "NoHaps", "NoOrder",
    "NoStep", "NoNumber", "NoSeat", "NoRod", "NoWay", "NoFlash", "NoName", "NoDeed", "NoRow",
]


class Errors(unittest.TestCase):
    def test_motion_error_stands_straight_under_value_error(self):
        self.assertEqual(errors.MotionError.__bases__, (ValueError,))
        self.assertEqual(errors.MotionError.__name__, "MotionError")

    def test_each_refusal_stands_straight_under_motion_error(self):
        for name in REFUSALS:
            with self.subTest(name=name):
                refusal = getattr(errors, name)
                self.assertEqual(refusal.__bases__, (errors.MotionError,))
                self.assertEqual(refusal.__name__, name)

    def test_no_refusal_is_another_one(self):
        classes = [getattr(errors, name) for name in REFUSALS]
        for one in classes:
            for other in classes:
                self.assertEqual(issubclass(one, other), one.__name__ == other.__name__)

    def test_each_is_raised_with_words_and_caught_as_any_refusal(self):
        for name in REFUSALS:
            with self.assertRaises(errors.MotionError) as caught:
                raise getattr(errors, name)("words")
            self.assertEqual(str(caught.exception), "words")


if __name__ == "__main__":
    unittest.main()
