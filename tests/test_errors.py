"""tellalike.errors: the classes, their bases and attributes."""

import unittest

from samples import odd_values
from tellalike import errors

WITH_THING = (
    "BadConcept", "BadBook", "BadVocabulary", "BadWorld", "BadLines", "BadThing", "BadFiller", "NotIn", "BadState",
    "BadData", "BadView", "BadEditions", "BadPart", "BadNumber", "BadDeed", "BadWord",
)
WITHOUT = ("NothingToUndo", "NothingToRedo")
PARAMETERS = [(name, "thing") for name in WITH_THING] + [("BadText", "at"), ("TooMany", "bound")]


class ErrorsTest(unittest.TestCase):

    def test_twenty_direct_subclasses(self):
        names = [name for name, _ in PARAMETERS] + list(WITHOUT)
        self.assertEqual(len(set(names)), 20)
        self.assertEqual(errors.TellError.__bases__, (Exception,))
        for name in names:
            self.assertEqual(getattr(errors, name).__bases__, (errors.TellError,), name)

    def test_parameters_are_attributes_by_position_and_by_name(self):
        for name, parameter in PARAMETERS:
            error_class = getattr(errors, name)
            for thing in odd_values():
                self.assertIs(getattr(error_class(thing), parameter), thing)
                self.assertIs(getattr(error_class(**{parameter: thing}), parameter), thing)

    def test_exactly_one_parameter(self):
        for name, parameter in PARAMETERS:
            error_class = getattr(errors, name)
            self.assertRaises(TypeError, error_class)
            self.assertRaises(TypeError, error_class, 1, 2)
            self.assertEqual(vars(error_class(7)), {parameter: 7})

    def test_without_parameters(self):
        for name in WITHOUT:
            self.assertEqual(vars(getattr(errors, name)()), {})

    def test_each_defines_what_takes_its_parameter(self):
        for name, _ in PARAMETERS:
            self.assertIn("__init__", vars(getattr(errors, name)))

    def test_caught_as_a_tell_error(self):
        for name, _ in PARAMETERS:
            with self.assertRaises(errors.TellError):
                raise getattr(errors, name)([1])
        for name in WITHOUT:
            with self.assertRaises(errors.TellError):
                raise getattr(errors, name)()


if __name__ == "__main__":
    unittest.main()
