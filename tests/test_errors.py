import unittest

from hangrings import errors

NAMES = [
    "NoTurn", "NoHanger", "TooMany", "NoJoint", "NoReach", "NoDeed",
    "NoName", "NoMark", "NoText", "NoLine", "NoKept",
]


class ErrorsTest(unittest.TestCase):
    def test_turn_error_stands_under_value_error(self):
        self.assertEqual(errors.TurnError.__bases__, (ValueError,))

    def test_each_stands_straight_under_turn_error(self):
        for name in NAMES:
            self.assertEqual(getattr(errors, name).__bases__, (errors.TurnError,), name)

    def test_none_stands_under_another(self):
        classes = [getattr(errors, name) for name in NAMES]
        for one in classes:
            for other in classes:
                self.assertEqual(issubclass(one, other), one is other)

    def test_each_is_made_of_one_text_or_of_nothing(self):
        for name in NAMES + ["TurnError"]:
            kind = getattr(errors, name)
            self.assertEqual(str(kind("some words")), "some words")
            self.assertIsInstance(kind(), kind)

    def test_each_is_taken_as_a_turn_error(self):
        for name in NAMES:
            for made in [getattr(errors, name)(), getattr(errors, name)("words")]:
                with self.assertRaises(errors.TurnError):
                    raise made


if __name__ == "__main__":
    unittest.main()
