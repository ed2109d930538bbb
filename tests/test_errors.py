import unittest

from stickbodies import errors

KINDS = ["BadSticks", "BadPoint", "BadTimes", "BadMany", "BadCut", "BadThree", "BadPlaces", "BadStick"]


class Errors(unittest.TestCase):
    def test_body_error_is_straight_under_value_error(self):
        self.assertEqual(errors.BodyError.__bases__, (ValueError,))

    def test_each_kind_is_straight_under_body_error(self):
        for name in KINDS:
            with self.subTest(name):
                kind = getattr(errors, name)
                self.assertEqual(kind.__bases__, (errors.BodyError,))
                self.assertEqual(kind.__name__, name)

    def test_kinds_are_eight_classes(self):
        self.assertEqual(len({getattr(errors, name) for name in KINDS}), 8)


if __name__ == "__main__":
    unittest.main()
