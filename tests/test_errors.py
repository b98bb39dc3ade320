import unittest

from keptarcs import errors
from tests.values import ANY

WITH_THING = (
    "BadRow", "BadArc", "BadLot", "BadRule", "BadPairs", "BadNumber", "BadMarks", "BadTree",
    "BadMachine", "BadWord", "BadWeights", "BadOrder", "BadMap",
)
WITHOUT = ("NothingToUndo", "NothingToRedo")


class ErrorsTest(unittest.TestCase):
    def test_there_are_just_these_sixteen(self):
        direct = {found.__name__ for found in errors.ArcError.__subclasses__()}
        self.assertEqual(direct, {*WITH_THING, "BadText", *WITHOUT})
        self.assertEqual(len(direct), 16)

    def test_no_other_base_class(self):
        self.assertEqual(errors.ArcError.__bases__, (Exception,))
        for found in errors.ArcError.__subclasses__():
            self.assertEqual(found.__bases__, (errors.ArcError,))
            self.assertEqual(found.__module__, "keptarcs.errors")

    def check_attribute(self, name, attribute):
        error_class = getattr(errors, name)
        for value in ANY:
            for error in (error_class(value), error_class(**{attribute: value})):
                self.assertIs(getattr(error, attribute), value)
                self.assertEqual(vars(error), {attribute: value})
                with self.assertRaises(errors.ArcError):
                    raise error
        self.assertRaises(TypeError, error_class)

    def test_the_thing_is_an_attribute(self):
        for name in WITH_THING:
            self.check_attribute(name, "thing")

    def test_the_line_is_an_attribute(self):
        self.check_attribute("BadText", "at")

    def test_those_without_parameters(self):
        for name in WITHOUT:
            error = getattr(errors, name)()
            self.assertEqual(vars(error), {})
            with self.assertRaises(errors.ArcError):
                raise error


if __name__ == "__main__":
    unittest.main()
