"""The error classes of spillsheet.errors."""

import unittest

from spillsheet import errors
from spillsheet.errors import NothingToRedo, NothingToUndo, SheetError
from tests.samples import any_values

ATTRIBUTES = {
    errors.BadAddress: "text",
    errors.BadFormula: "position",
    errors.BadContent: "text",
    errors.OutOfGrid: "cell",
    errors.TooLarge: "count",
    errors.NotUndecided: "question",
    errors.BadFile: "line",
    errors.BadCommand: "command",
}
WITHOUT_ARGUMENT = [NothingToUndo, NothingToRedo]
ALL_ERRORS = list(ATTRIBUTES) + WITHOUT_ARGUMENT


def kept_values():
    return any_values() + [1.5, b"A1", object(), ValueError("x"), {1, 2}, len, int]


class ErrorsTest(unittest.TestCase):
    def test_sheet_error_is_a_value_error(self):
        self.assertEqual(SheetError.__bases__, (ValueError,))

    def test_all_others_are_direct_subclasses_of_sheet_error(self):
        for error_class in ALL_ERRORS:
            with self.subTest(error=error_class.__name__):
                self.assertEqual(error_class.__bases__, (SheetError,))
                self.assertTrue(issubclass(error_class, ValueError))

    def test_there_are_ten_of_them(self):
        self.assertEqual(len(ALL_ERRORS), 10)
        self.assertEqual(len(set(ALL_ERRORS)), 10)

    def test_by_position_the_very_value_is_kept(self):
        for error_class, attribute in ATTRIBUTES.items():
            for value in kept_values():
                with self.subTest(error=error_class.__name__, value=value):
                    self.assertIs(getattr(error_class(value), attribute), value)

    def test_by_name_the_very_value_is_kept(self):
        for error_class, attribute in ATTRIBUTES.items():
            for value in kept_values():
                with self.subTest(error=error_class.__name__, value=value):
                    error = error_class(**{attribute: value})
                    self.assertIs(getattr(error, attribute), value)

    def test_two_errors_of_a_class_keep_their_own_values(self):
        for error_class, attribute in ATTRIBUTES.items():
            first, second = error_class("first"), error_class("second")
            self.assertEqual(getattr(first, attribute), "first")
            self.assertEqual(getattr(second, attribute), "second")

    def test_a_wrong_number_of_arguments_or_a_wrong_name_is_refused(self):
        for error_class in ATTRIBUTES:
            with self.subTest(error=error_class.__name__):
                with self.assertRaises(TypeError):
                    error_class()
                with self.assertRaises(TypeError):
                    error_class(1, 2)
                with self.assertRaises(TypeError):
                    error_class(value=1)

    def test_nothing_to_undo_and_redo_take_no_argument(self):
        for error_class in WITHOUT_ARGUMENT:
            with self.subTest(error=error_class.__name__):
                self.assertIsInstance(error_class(), SheetError)
                with self.assertRaises(TypeError):
                    error_class(1)

    def test_they_can_be_raised_and_caught_as_sheet_error_and_value_error(self):
        made = [error_class(5) for error_class in ATTRIBUTES]
        made += [error_class() for error_class in WITHOUT_ARGUMENT]
        for error in made:
            for caught in (type(error), SheetError, ValueError):
                with self.subTest(error=type(error).__name__, caught=caught.__name__):
                    with self.assertRaises(caught) as context:
                        raise error
                    self.assertIs(context.exception, error)


if __name__ == "__main__":
    unittest.main()
