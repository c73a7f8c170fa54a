"""The section healring/errors.py of the interface."""

import unittest

from healring import errors

UNDER_HEAL_ERROR = ("NoNumbers", "NoRing", "NoMachine", "NotNow", "NotHealed", "TooGreat")


class ErrorsTest(unittest.TestCase):
    def test_heal_error_stands_right_under_value_error(self):
        self.assertEqual(errors.HealError.__bases__, (ValueError,))

    def test_each_other_class_stands_right_under_heal_error(self):
        for name in UNDER_HEAL_ERROR:
            with self.subTest(name=name):
                kind = getattr(errors, name)
                self.assertEqual(kind.__bases__, (errors.HealError,))
                self.assertTrue(issubclass(kind, ValueError))

    def test_each_class_is_defined_in_this_file(self):
        for name in ("HealError",) + UNDER_HEAL_ERROR:
            with self.subTest(name=name):
                kind = getattr(errors, name)
                self.assertEqual(kind.__module__, "healring.errors")
                self.assertEqual(kind.__name__, name)

    def test_no_class_under_heal_error_is_under_another(self):
        for name in UNDER_HEAL_ERROR:
            for other in UNDER_HEAL_ERROR:
                if name != other:
                    with self.subTest(name=name, other=other):
                        kind = getattr(errors, name)
                        self.assertFalse(issubclass(kind, getattr(errors, other)))

    def test_each_class_can_be_raised_with_words_and_caught_as_heal_error(self):
        for name in ("HealError",) + UNDER_HEAL_ERROR:
            with self.subTest(name=name):
                with self.assertRaises(errors.HealError) as caught:
                    raise getattr(errors, name)("some words")
                self.assertEqual(str(caught.exception), "some words")


if __name__ == "__main__":
    unittest.main()
