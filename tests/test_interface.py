"""The opening words of the interface: each name exists as written, in its file."""

import importlib
import inspect
import unittest

FUNCTIONS = {
    "spillsheet.grid": {
        "cell_name": ["cell"],
        "parse_cell": ["text"],
        "area_name": ["area"],
        "parse_area": ["text"],
        "area_at": ["cell", "rows", "columns"],
        "contains": ["area", "cell"],
        "overlaps": ["first", "second"],
        "cells_of": ["area"],
    },
    "spillsheet.expressions": {
        "is_expression": ["value"],
        "depth_of": ["expression"],
        "references_of": ["expression"],
    },
    "spillsheet.parser": {"parse": ["text"]},
    "spillsheet.printer": {"print_expression": ["expression"]},
    "spillsheet.scalars": {
        "is_scalar": ["value"],
        "is_error": ["scalar"],
        "as_number": ["scalar"],
        "apply_operator": ["operator", "left", "right"],
        "negate": ["scalar"],
        "aggregate": ["name", "scalars"],
    },
    "spillsheet.evaluate": {"evaluate": ["expression", "part", "sheet", "answers"]},
    "spillsheet.sheets": {"is_sheet": ["value"], "formulas_of": ["sheet"]},
    "spillsheet.rules": {
        "questions_of": ["sheet", "answers"],
        "apply_rule": ["sheet", "answers", "question"],
    },
    "spillsheet.settle": {"settle": ["sheet"], "display": ["sheet"]},
    "spillsheet.certificates": {
        "derivation": ["sheet"],
        "check_derivation": ["sheet", "steps"],
        "waiting_chain": ["sheet", "question"],
        "waiting_set": ["sheet", "question"],
        "check_waiting_set": ["sheet", "steps", "questions"],
        "is_complete_state": ["sheet", "state"],
    },
    "spillsheet.references": {"translate": ["expression", "down", "right"]},
    "spillsheet.edits": {
        "insert_rows": ["sheet", "at", "count"],
        "insert_columns": ["sheet", "at", "count"],
        "delete_rows": ["sheet", "at", "count"],
        "delete_columns": ["sheet", "at", "count"],
        "copy_cells": ["sheet", "area", "target"],
    },
    "spillsheet.dependencies": {"kept_questions": ["before", "after"]},
    "spillsheet.compiler": {"compile_expression": ["expression"]},
    "spillsheet.machine": {"run_program": ["program", "part", "sheet", "answers"]},
    "spillsheet.files": {"save_text": ["sheet"], "load_text": ["text"]},
}

# The arguments after *, with their default values.
NAMED_ARGUMENTS = {("spillsheet.settle", "settle"): {"known": None}}

CLASSES = {
    "spillsheet.errors": [
        "SheetError", "BadAddress", "BadFormula", "BadContent", "OutOfGrid", "TooLarge",
        "NotUndecided", "NothingToUndo", "NothingToRedo", "BadFile", "BadCommand",
    ],
    "spillsheet.workbook": ["Workbook"],
    "spillsheet.console": ["Console"],
}

# For every class that is more than an error its methods with their arguments.
METHODS = {
    ("spillsheet.workbook", "Workbook"): {
        "__init__": ["rows", "columns"],
        "__eq__": ["other"],
        "__len__": [],
        "set_cell": ["cell", "text"],
        "insert_rows": ["at", "count"],
        "insert_columns": ["at", "count"],
        "delete_rows": ["at", "count"],
        "delete_columns": ["at", "count"],
        "copy": ["area", "target"],
        "undo": [],
        "redo": [],
        "sheet": [],
        "state": [],
        "text_of": ["cell"],
        "shown": ["cell"],
        "status": ["cell"],
        "changes": [],
        "kept": [],
    },
    ("spillsheet.console", "Console"): {"__init__": [], "say": ["command"]},
}

# The arguments of methods that have a default value.
DEFAULTS = {
    (method, "count"): 1
    for method in ("insert_rows", "insert_columns", "delete_rows", "delete_columns")
}


class InterfaceTest(unittest.TestCase):
    def test_functions_are_defined_in_their_files(self):
        for module_name, functions in FUNCTIONS.items():
            module = importlib.import_module(module_name)
            for name in functions:
                with self.subTest(module=module_name, name=name):
                    function = getattr(module, name)
                    self.assertTrue(inspect.isfunction(function))
                    self.assertEqual(function.__module__, module_name)
                    self.assertEqual(function.__name__, name)

    def test_arguments_have_the_names_shown_and_may_be_passed_by_position(self):
        for module_name, functions in FUNCTIONS.items():
            module = importlib.import_module(module_name)
            for name, arguments in functions.items():
                with self.subTest(module=module_name, name=name):
                    parameters = inspect.signature(getattr(module, name)).parameters.values()
                    plain = [parameter for parameter in parameters
                             if parameter.kind == inspect.Parameter.POSITIONAL_OR_KEYWORD]
                    self.assertEqual([parameter.name for parameter in plain], arguments)
                    for parameter in plain:
                        self.assertIs(parameter.default, inspect.Parameter.empty)
                    others = {parameter.name: parameter.default for parameter in parameters
                              if parameter.kind == inspect.Parameter.KEYWORD_ONLY}
                    self.assertEqual(others, NAMED_ARGUMENTS.get((module_name, name), {}))
                    self.assertEqual(len(plain) + len(others), len(parameters))

    def test_classes_are_defined_in_their_files(self):
        for module_name, classes in CLASSES.items():
            module = importlib.import_module(module_name)
            for name in classes:
                with self.subTest(module=module_name, name=name):
                    found = getattr(module, name)
                    self.assertTrue(inspect.isclass(found))
                    self.assertEqual(found.__module__, module_name)
                    self.assertEqual(found.__name__, name)

    def test_methods_are_defined_in_the_classes_themselves(self):
        for (module_name, class_name), methods in METHODS.items():
            found = getattr(importlib.import_module(module_name), class_name)
            for name, arguments in methods.items():
                with self.subTest(name=name):
                    self.assertTrue(inspect.isfunction(vars(found).get(name)))
                    own, *parameters = inspect.signature(vars(found)[name]).parameters.values()
                    self.assertEqual(own.name, "self")
                    self.assertEqual([parameter.name for parameter in parameters], arguments)
                    for parameter in parameters:
                        self.assertEqual(parameter.kind, inspect.Parameter.POSITIONAL_OR_KEYWORD)
                        expected = DEFAULTS.get((name, parameter.name), inspect.Parameter.empty)
                        self.assertEqual(parameter.default, expected)


if __name__ == "__main__":
    unittest.main()
