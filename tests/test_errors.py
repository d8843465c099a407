import unittest

from meanbits import errors

NAMES = ["BadPart", "NoPlace", "NoStart", "NoTop", "NoShare", "TooShort", "TooMuch", "UnlikeRows", "BadSheet"]


class Refusals(unittest.TestCase):
    def test_bits_error_stands_straight_under_value_error(self):
        self.assertEqual(errors.BitsError.__bases__, (ValueError,))

    def test_each_class_stands_straight_under_bits_error(self):
        for name in NAMES:
            with self.subTest(name):
                self.assertEqual(getattr(errors, name).__bases__, (errors.BitsError,))

    def test_none_stands_under_another_one(self):
        classes = [getattr(errors, name) for name in NAMES]
        for one in classes:
            for other in classes:
                self.assertEqual(issubclass(one, other), one is other)

    def test_all_but_bad_sheet_are_made_with_words(self):
        for name in NAMES[:-1]:
            with self.subTest(name):
                refusal = getattr(errors, name)("some words")
                self.assertEqual(str(refusal), "some words")
                with self.assertRaises(errors.BitsError):
                    raise refusal

    def test_bad_sheet_has_its_row(self):
        for row in (0, 1, 59):
            refusal = errors.BadSheet(row)
            self.assertEqual(refusal.row, row)
            self.assertIs(type(refusal.row), int)
            with self.assertRaises(ValueError):
                raise refusal
