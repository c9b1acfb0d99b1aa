"""The classes of refusal."""

import unittest

from roomtouch import errors

NAMES = ["NoWeb", "NoTinting", "NoFloor", "Meeting", "NoRoom", "NoName", "Twice", "NoCut", "TooMany", "NoDeed", "NoText"]


class Errors(unittest.TestCase):
    def test_touch_error_stands_under_value_error(self):
        self.assertEqual(errors.TouchError.__bases__, (ValueError,))

    def test_each_class_stands_straight_under_touch_error(self):
        for name in NAMES:
            self.assertEqual(getattr(errors, name).__bases__, (errors.TouchError,), name)

    def test_the_classes_are_eleven_and_different(self):
        self.assertEqual(len({getattr(errors, name) for name in NAMES}), 11)

    def test_each_is_made_of_one_text_or_of_nothing(self):
        for name in ["TouchError"] + NAMES:
            made = getattr(errors, name)
            self.assertEqual(str(made("why not")), "why not")
            self.assertEqual(str(made()), "")

    def test_each_is_taken_as_any_refusal(self):
        for name in NAMES:
            with self.assertRaises(errors.TouchError):
                raise getattr(errors, name)()


if __name__ == "__main__":
    unittest.main()
