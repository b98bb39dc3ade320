import importlib
import inspect
import unittest

from tests.interface import FUNCTIONS, functions
from tests.values import named_backward

YARD = (
    "__init__(self, n)", "rule(self)", "row(self)", "text(self)", "first(self)", "last(self)", "undoable(self)",
    "redoable(self)", "blind(self, arc)", "count(self, arc)", "exchange(self, i)", "down(self)", "up(self)",
    "undo(self)", "redo(self)", "copied(self)", "is_same(self, thing)",
)


class InterfaceTest(unittest.TestCase):
    """[0.2]"""

    def test_names_and_parameters(self):
        for file, told in FUNCTIONS.items():
            module = importlib.import_module(f"keptarcs.{file}")
            for text in told:
                function = getattr(module, text.partition("(")[0])
                self.assertEqual(function.__name__ + str(inspect.signature(function)), text)

    def test_defined_in_the_file_that_lists_it(self):
        for file, function, _ in functions():
            self.assertEqual(function.__module__, f"keptarcs.{file}")

    def test_methods_of_yards(self):
        found = importlib.import_module("keptarcs.yards").Yard
        self.assertEqual((found.__module__, found.__bases__), ("keptarcs.yards", (object,)))
        for text in YARD:
            method = vars(found)[text.partition("(")[0]]
            self.assertEqual(method.__name__ + str(inspect.signature(method)), text)

    def test_by_position_and_by_name_and_twice(self):
        for file, function, named in functions():
            if file == "yards":
                continue
            kept = repr(named)
            found = function(*named.values())
            self.assertIsNotNone(found)
            self.assertEqual(function(**named_backward(named)), found, function)
            self.assertEqual(function(*named.values()), found, function)
            self.assertEqual(repr(named), kept)


if __name__ == "__main__":
    unittest.main()
