"""The refusals: the interface's eachonce/errors.py."""

import unittest

from eachonce import errors

TEXT_NAMES = ("NoCovering", "TooMany", "NoThing", "NoPiece", "NoWeight", "NoOrder", "Held", "NoDeed", "NoRow")
ALL_NAMES = ("NoText",) + TEXT_NAMES


def class_of(name):
    return getattr(errors, name)


def made(name):
    return errors.NoText(3) if name == "NoText" else class_of(name)("some words")


class Errors(unittest.TestCase):
    def test_once_error_stands_straight_under_value_error(self):
        self.assertEqual(errors.OnceError.__bases__, (ValueError,))
        self.assertIsInstance(errors.OnceError("some words"), ValueError)

    def test_each_class_stands_straight_under_once_error(self):
        for name in ALL_NAMES:
            with self.subTest(name=name):
                self.assertEqual(class_of(name).__bases__, (errors.OnceError,))

    def test_none_stands_under_another_one(self):
        for name in ALL_NAMES:
            for other in ALL_NAMES:
                with self.subTest(name=name, other=other):
                    self.assertEqual(issubclass(class_of(name), class_of(other)), name == other)

    def test_each_is_raised_and_taken_by_all_its_names(self):
        for name in ALL_NAMES:
            for taken_as in (class_of(name), errors.OnceError, ValueError):
                with self.subTest(name=name, taken_as=taken_as):
                    with self.assertRaises(taken_as):
                        raise made(name)

    def test_each_class_bears_its_own_name(self):
        for name in ALL_NAMES + ("OnceError",):
            with self.subTest(name=name):
                self.assertEqual(class_of(name).__name__, name)

    def test_made_with_a_text_it_shows_the_text(self):
        for name in TEXT_NAMES + ("OnceError",):
            with self.subTest(name=name):
                self.assertEqual(str(class_of(name)("some words")), "some words")

    def test_the_field_row_is_set_when_it_is_made(self):
        for row in (0, 1, 32, 10 ** 60 - 1):
            with self.subTest(row=row):
                error = errors.NoText(row)
                self.assertEqual(error.row, row)
                self.assertIs(error.row.__class__, int)

    def test_each_no_text_has_a_row_of_its_own(self):
        one, other = errors.NoText(1), errors.NoText(2)
        self.assertEqual((one.row, other.row), (1, 2))


if __name__ == "__main__":
    unittest.main()
