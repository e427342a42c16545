import unittest

from likehalves.errors import (HalfError, NoEven, NoFrame, NoFrames, NoMiss, NoName, NoNumber, NoPart, NoRow, NoSum,
                               NoText)

REFUSALS = [NoFrame, NoNumber, NoPart, NoSum, NoMiss, NoEven, NoFrames, NoText, NoName, NoRow]


class ErrorsTest(unittest.TestCase):
    def test_half_error_is_a_value_error(self):
        self.assertTrue(issubclass(HalfError, ValueError))

    def test_each_refusal_is_a_half_error_and_none_is_half_error_itself(self):
        for refusal in REFUSALS:
            with self.subTest(refusal=refusal):
                self.assertTrue(issubclass(refusal, HalfError))
                self.assertIsNot(refusal, HalfError)

    def test_none_stands_under_another(self):
        for one in REFUSALS:
            for other in REFUSALS:
                with self.subTest(one=one, other=other):
                    self.assertEqual(issubclass(one, other), one.__name__ == other.__name__)

    def test_each_has_its_name(self):
        names = ["NoFrame", "NoNumber", "NoPart", "NoSum", "NoMiss", "NoEven", "NoFrames", "NoText", "NoName", "NoRow"]
        self.assertEqual([refusal.__name__ for refusal in REFUSALS], names)

    def test_each_is_raised_and_caught_as_half_error(self):
        for refusal in REFUSALS:
            with self.subTest(refusal=refusal):
                with self.assertRaises(HalfError):
                    raise refusal("some words")


if __name__ == "__main__":
    unittest.main()
