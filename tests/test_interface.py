import importlib
import inspect
import unittest

FUNCTIONS = {
    "rows": (
        "is_row(n, thing)", "turned_pairs(n, row)", "mirror(n, row)", "exchanged(n, row, i)",
        "row_by_pairs(n, pairs)", "is_below(n, one, other)", "judge_below(n, one, other)",
        "below_holds(n, one, other, thing)", "distance(n, one, other)",
        "least_above(n, one, other)", "greatest_below(n, one, other)", "all_rows(n)",
    ),
    "arcs": (
        "is_arc(n, thing)", "all_arcs(n)", "arc_at(n, row, i)", "arcs_of_falls(n, row)",
        "arcs_of_rises(n, row)", "single_row(n, arc)", "arcs_within(n, arc)",
        "lies_within(n, one, other)", "judge_crossing(n, one, other)",
        "crossing_holds(n, one, other, thing)",
    ),
    "lots": (
        "is_lot(n, thing)", "judge_lot(n, arcs)", "lot_holds(n, arcs, thing)", "all_lots(n)",
        "lot_of_falls(n, row)", "lot_of_rises(n, row)", "row_of_falls(n, lot)",
        "row_of_rises(n, lot)", "judge_making(n, row, rows)", "making_holds(n, row, rows, thing)",
    ),
}


class InterfaceTest(unittest.TestCase):
    def test_names_and_parameters(self):
        for file, functions in FUNCTIONS.items():
            module = importlib.import_module(f"keptarcs.{file}")
            for told in functions:
                function = getattr(module, told.partition("(")[0])
                self.assertEqual(function.__name__ + str(inspect.signature(function)), told)

    def test_defined_in_the_file_that_lists_it(self):
        for file, functions in FUNCTIONS.items():
            module = importlib.import_module(f"keptarcs.{file}")
            for told in functions:
                function = getattr(module, told.partition("(")[0])
                self.assertEqual(function.__module__, f"keptarcs.{file}")


if __name__ == "__main__":
    unittest.main()
