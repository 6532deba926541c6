import unittest

from roundlap import errors

NAMES = ["NoLoop", "NoInputs", "NoGap", "NoPlan", "NoBoxes", "NoRounds", "TooBig", "NoText"]


class ErrorsTest(unittest.TestCase):
    def test_lap_error_is_a_value_error(self):
        self.assertTrue(issubclass(errors.LapError, ValueError))

    def test_each_is_a_lap_error_and_a_value_error(self):
        for name in NAMES:
            with self.subTest(name):
                refusal = getattr(errors, name)
                self.assertEqual(refusal.__name__, name)
                for base in (errors.LapError, ValueError):
                    with self.assertRaises(base):
                        raise refusal("words")

    def test_none_is_another_one(self):
        for one in NAMES:
            for other in NAMES:
                with self.subTest(f"{one} {other}"):
                    below = issubclass(getattr(errors, one), getattr(errors, other))
                    self.assertEqual(below, one == other)


if __name__ == "__main__":
    unittest.main()
