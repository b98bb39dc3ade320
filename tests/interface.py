"""The functions of the interface, with right arguments, and with the errors that wrong ones raise."""

import importlib

from keptarcs import errors

FUNCTIONS = {
    "rows": (
        "is_row(n, thing)", "turned_pairs(n, row)", "mirror(n, row)", "exchanged(n, row, i)",
        "row_by_pairs(n, pairs)", "is_below(n, one, other)", "judge_below(n, one, other)",
        "below_holds(n, one, other, thing)", "distance(n, one, other)",
        "least_above(n, one, other)", "greatest_below(n, one, other)", "all_rows(n)",
    ),
    "arcs": (
        "is_arc(n, thing)", "all_arcs(n)", "arc_at(n, row, i)", "arcs_of_falls(n, row)",
        "arcs_of_rises(n, row)", "single_row(n, arc)", "arcs_within(n, arc)",
        "lies_within(n, one, other)", "judge_crossing(n, one, other)",
        "crossing_holds(n, one, other, thing)",
    ),
    "lots": (
        "is_lot(n, thing)", "judge_lot(n, arcs)", "lot_holds(n, arcs, thing)", "all_lots(n)",
        "lot_of_falls(n, row)", "lot_of_rises(n, row)", "row_of_falls(n, lot)",
        "row_of_rises(n, lot)", "judge_making(n, row, rows)", "making_holds(n, row, rows, thing)",
    ),
    "rules": (
        "is_rule(n, thing)", "judge_rule(n, arcs)", "rule_holds(n, arcs, thing)", "widest_rule(n, arcs)",
        "least_blind(n, rule)", "rules_together(n, one, other)", "rules_common(n, one, other)",
        "is_finer(n, one, other)", "all_rules(n)", "many_rules(n)",
    ),
    "finest": (
        "finest_rule(n, pairs)", "judge_arc(n, pairs, arc)", "arc_holds(n, pairs, arc, thing)",
    ),
    "classes": (
        "first_row(n, rule, row)", "last_row(n, rule, row)", "judge_first(n, rule, row)",
        "first_holds(n, rule, row, thing)", "way_down(n, rule, row)", "are_one(n, rule, one, other)",
        "judge_one(n, rule, one, other)", "one_holds(n, rule, one, other, thing)", "class_of(n, rule, row)",
        "lot_of_class(n, rule, row)", "row_of_lot(n, rule, lot)", "classes(n, rule)", "many_classes(n, rule)",
    ),
    "quotient": (
        "is_class_below(n, rule, one, other)", "judge_class_below(n, rule, one, other)",
        "class_below_holds(n, rule, one, other, thing)", "least_class_above(n, rule, one, other)",
        "greatest_class_below(n, rule, one, other)", "lower_neighbours(n, rule, row)",
        "upper_neighbours(n, rule, row)", "are_neighbours(n, rule, one, other)",
    ),
    "lists": (
        "lesser_rule(n, rule)", "gone_through(n, rule)", "listed_row(n, rule, row)", "place_in_list(n, rule, row)",
        "row_at(n, rule, number)",
    ),
    "even": (
        "is_full(n, rule)", "many_neighbours(n, rule, row)", "judge_even(n, rule)", "even_holds(n, rule, thing)",
    ),
    "marks": (
        "is_marks(n, thing)", "rule_of_marks(n, marks)", "twin_rule(n)", "judge_marked(n, rule)",
        "marked_holds(n, rule, thing)",
    ),
    "trees": (
        "is_tree(n, thing)", "tree_of(n, row)", "late_tree_of(n, row)", "next_trees(n, tree)",
        "rows_of_tree(n, tree)", "first_row_of(n, tree)", "judge_twins(n, one, other)",
        "twins_hold(n, one, other, thing)",
    ),
    "machines": (
        "is_machine(thing)", "turn_word(n, arc)", "reads(machine, word)", "judge_machine(machine)",
        "machine_holds(machine, thing)", "rule_for(n, machine)", "many_classes(n, machine)",
        "judge_alike(one, other)", "alike_holds(one, other, thing)", "judge_finer(one, other)",
        "finer_holds(one, other, thing)", "shunning(words)",
    ),
    "bodies": (
        "matchings(n, arc)", "best_matching(n, arc, row)", "corner(n, rule, row)", "corners(n, rule)",
        "greatest_worth(n, rule, weights)", "judge_point(n, rule, point)", "point_holds(n, rule, point, thing)",
    ),
    "maps": (
        "is_order(thing)", "is_map(n, order, thing)", "judge_map(n, order, places)",
        "map_holds(n, order, places, thing)", "class_order(n, rule)", "class_map(n, rule)",
    ),
    "yards": ("read_yard(text)",),
}

ROWS = {"row": (2, 3, 1), "one": (2, 3, 1), "other": (3, 1, 2), "i": 1, "pairs": ((1, 3), (2, 3)), "thing": None}
ARCS = {"row": (2, 3, 1), "i": 1, "arc": (1, 3, (2,)), "one": (2, 3, ()), "other": (1, 3, ()), "thing": ("apart",)}
LOTS = {"arcs": ((1, 2, ()),), "lot": ((1, 2, ()),), "row": (2, 3, 1), "rows": ((2, 1, 3),), "thing": ("lot",)}
EASY = ((1, 2, ()), (1, 3, ()), (2, 3, ()))
RULES = {"arcs": EASY, "rule": EASY, "one": EASY, "other": EASY[:1], "thing": ("rule",)}
FINEST = {"pairs": (((2, 1, 3), (2, 3, 1)),), "arc": (1, 3, ()), "thing": ("counts", EASY)}
CLASSES = {**ROWS, "rule": EASY, "lot": ((1, 3, ()),), "thing": ("first",)}
LISTS = {"rule": EASY, "row": (2, 3, 1), "number": 4}
EVEN = {"rule": EASY, "row": (2, 3, 1), "thing": ("even",)}
MARKS = {"rule": EASY, "marks": ("", "ahead", "both"), "thing": ("marks", ("", "ahead", ""))}
LEFT, RIGHT = (3, (2, (1, (), ()), ()), ()), (1, (), (2, (), (3, (), ())))
TREES = {"row": (2, 3, 1), "tree": LEFT, "one": LEFT, "other": RIGHT, "thing": ("twins", (3, 2, 1))}
ALL, NO_A = ((0,), (0,), (True,)), ((1, 1), (0, 1), (True, False))
MACHINES = {"arc": (1, 3, (2,)), "machine": NO_A, "word": "BB", "words": ("AB", "BBB"), "one": NO_A, "other": ALL}
BODIES = {"arc": (1, 3, (2,)), "row": (2, 3, 1), "rule": EASY, "weights": (5, -2, 0), "point": (1, 0, -1)}
MAPS = {"order": (2, ((0, 1),)), "places": (0, 0, 1, 1, 0, 1), "rule": EASY}

# Right arguments for the functions of each file.
GOOD = {
    "rows": ROWS, "arcs": ARCS, "lots": LOTS, "rules": RULES, "finest": FINEST, "classes": CLASSES,
    "quotient": CLASSES, "lists": LISTS, "even": EVEN, "marks": MARKS, "trees": TREES,
    "machines": {**MACHINES, "thing": ("word", "A")}, "bodies": {**BODIES, "thing": ("within",)},
    "maps": {**MAPS, "thing": ("keeps", ((1, 2, ()),))}, "yards": {"text": "yard 3\nrow 2 1 3\narc 1 3 2"},
}

CLASS_ERRORS = {"rule": errors.BadRule, "lot": errors.BadLot}

# What is raised for wrong values of the parameters of each file, of which more than rows are asked for.
ERRORS = {
    "rows": {"pairs": errors.BadPairs, "i": errors.BadNumber},
    "arcs": {"i": errors.BadNumber, "arc": errors.BadArc, "one": errors.BadArc, "other": errors.BadArc},
    "lots": {"arcs": errors.BadLot, "lot": errors.BadLot, "rows": errors.BadLot},
    "rules": dict.fromkeys(("arcs", "rule", "one", "other"), errors.BadRule),
    "finest": {"pairs": errors.BadPairs, "arc": errors.BadArc},
    "classes": CLASS_ERRORS, "quotient": CLASS_ERRORS, "even": CLASS_ERRORS,
    "lists": {**CLASS_ERRORS, "number": errors.BadNumber},
    "marks": {**CLASS_ERRORS, "marks": errors.BadMarks},
    "trees": dict.fromkeys(("tree", "one", "other"), errors.BadTree),
    "machines": {
        **dict.fromkeys(("machine", "one", "other"), errors.BadMachine),
        "arc": errors.BadArc, "word": errors.BadWord, "words": errors.BadWord,
    },
    "bodies": {**CLASS_ERRORS, "arc": errors.BadArc, "weights": errors.BadWeights, "point": errors.BadWeights},
    "maps": {**CLASS_ERRORS, "order": errors.BadOrder, "places": errors.BadMap},
}


def error_of(file, name):
    """The error for a wrong value of a parameter, or None if there is none."""
    if name in ("n", "thing"):
        return None
    return ERRORS[file].get(name, errors.BadRow)


def functions():
    """All functions of the interface: the name of the file, the function, its right arguments for n = 3 by name."""
    found = []
    for file, told in FUNCTIONS.items():
        module = importlib.import_module(f"keptarcs.{file}")
        for text in told:
            name, _, parameters = text.rstrip(")").partition("(")
            good = {"n": 3, **GOOD[file]}
            found.append((file, getattr(module, name), {part: good[part] for part in parameters.split(", ")}))
    return found
