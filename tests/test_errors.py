"""Point 15: the errors."""

import unittest

from countermarch import errors
from countermarch.errors import CountermarchError

# Each class with its arguments, by name and in their order.
CLASSES = (
    (errors.FieldError, {}),
    (errors.TextError, {"at": 17}),
    (errors.TreeError, {"path": (1, 0, 2), "reason": "scope"}),
    (errors.ArgumentError, {"reason": "params"}),
    (errors.CodeError, {}),
    (errors.ScheduleError, {"number": -1, "reason": "form"}),
    (errors.PaperError, {"reason": "entry"}),
    (errors.CommandError, {"line": "gradient 3 x"}),
)


class TestErrors(unittest.TestCase):
    def check_attributes(self, error, arguments):
        for name, value in arguments.items():
            self.assertEqual(getattr(error, name), value)

    def test_base_class_is_a_value_error(self):
        self.assertEqual(CountermarchError.__bases__, (ValueError,))

    def test_others_are_direct_subclasses(self):
        for error_class, _ in CLASSES:
            with self.subTest(error_class=error_class):
                self.assertEqual(error_class.__bases__, (CountermarchError,))

    def test_there_are_no_more_classes(self):
        self.assertCountEqual(CountermarchError.__subclasses__(), [row[0] for row in CLASSES])

    def test_field_error_is_no_argument_error(self):
        self.assertFalse(issubclass(errors.FieldError, errors.ArgumentError))
        self.assertNotIsInstance(errors.FieldError(), errors.ArgumentError)

    def test_arguments_by_position_are_attributes(self):
        for error_class, arguments in CLASSES:
            with self.subTest(error_class=error_class):
                self.check_attributes(error_class(*arguments.values()), arguments)

    def test_arguments_by_name_are_attributes(self):
        for error_class, arguments in CLASSES:
            with self.subTest(error_class=error_class):
                self.check_attributes(error_class(**arguments), arguments)

    def test_attributes_keep_empty_values(self):
        self.assertEqual(errors.TreeError((), "shape").path, ())
        self.assertEqual(errors.TextError(0).at, 0)
        self.assertEqual(errors.ScheduleError(0, "done").number, 0)
        self.assertEqual(errors.CommandError("").line, "")

    def test_missing_arguments_are_refused(self):
        for error_class, arguments in CLASSES:
            if arguments:
                with self.subTest(error_class=error_class), self.assertRaises(TypeError):
                    error_class(*list(arguments.values())[:-1])

    def test_each_one_is_caught_by_its_name_and_its_bases(self):
        for error_class, arguments in CLASSES:
            for caught in (error_class, CountermarchError, ValueError):
                with self.subTest(error_class=error_class, caught=caught):
                    with self.assertRaises(caught) as context:
                        raise error_class(*arguments.values())
                    self.check_attributes(context.exception, arguments)

    def test_messages_tell_the_arguments(self):
        for error_class, arguments in CLASSES:
            for value in arguments.values():
                with self.subTest(error_class=error_class):
                    self.assertIn(str(value), str(error_class(*arguments.values())))


if __name__ == "__main__":
    unittest.main()
