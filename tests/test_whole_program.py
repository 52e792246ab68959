"""What the document promises of the whole program: its conventions, in every function."""

import copy
import importlib
import unittest

from spillsheet import errors
from spillsheet.console import Console
from spillsheet.parser import parse
from spillsheet.workbook import Workbook
from tests.samples import any_values
from tests.test_interface import DEFAULTS, FUNCTIONS, METHODS, NAMED_ARGUMENTS
from tests.test_rules import sheet_of

CIRCLE = sheet_of(2, 2, A1="B1", B1="A1", A2=4, B2="SEQ(1)")
SPILL = sheet_of(3, 3, A1="SEQ(2,2)", C1="A1#+B2", C3=5)
FORMULA = parse("IF(A1,SUM(A1:B2),-B2#)+#REF")
ANSWERS = {("shown", (0, 0)): 1, ("shown", (0, 1)): None, ("shown", (1, 0)): 3}
STEPS = [(("shown", (1, 0)), 4), (("rows", (1, 1)), 1)]
STATE = {("shown", (0, 0)): 4}
CLOSED = [("element", (0, 0), 0, 0), ("shown", (0, 1)), ("element", (0, 1), 0, 0), ("shown", (0, 0))]

# For every function of the interface arguments that it can work with.
ARGUMENTS = {
    "cell_name": [(3, 4)], "parse_cell": ["D4"], "area_name": [(0, 0, 2, 1)], "parse_area": ["A1:B3"],
    "area_at": [(1, 1), 2, 3], "contains": [(0, 0, 2, 2), (1, 1)], "overlaps": [(0, 0, 1, 1), (1, 1, 2, 2)],
    "cells_of": [(0, 0, 1, 1)], "is_expression": [FORMULA], "depth_of": [FORMULA],
    "references_of": [FORMULA], "parse": ["SUM(A1:B2)+1"], "print_expression": [FORMULA], "is_scalar": [5],
    "is_error": ["#DIV"], "as_number": [None], "apply_operator": ["+", 2, None], "negate": [4],
    "aggregate": ["SUM", [1, None, 3]], "evaluate": [FORMULA, ("rows",), SPILL, ANSWERS],
    "is_sheet": [SPILL], "formulas_of": [SPILL], "questions_of": [SPILL, ANSWERS],
    "apply_rule": [SPILL, ANSWERS, ("status", (0, 2))], "settle": [SPILL], "display": [SPILL],
    "derivation": [SPILL], "check_derivation": [CIRCLE, STEPS], "waiting_chain": [CIRCLE, ("shown", (0, 0))],
    "waiting_set": [CIRCLE, ("shown", (0, 0))], "check_waiting_set": [CIRCLE, STEPS[:1], CLOSED],
    "is_complete_state": [(1, 1, {(0, 0): 4}), STATE], "translate": [FORMULA, 1, 2],
    "insert_rows": [SPILL, 1, 2], "insert_columns": [SPILL, 1, 2], "delete_rows": [SPILL, 1, 1],
    "delete_columns": [SPILL, 1, 1], "copy_cells": [SPILL, (0, 0, 1, 1), (1, 1)],
    "kept_questions": [SPILL, sheet_of(3, 3, A1="SEQ(2,2)", C3=6)], "compile_expression": [FORMULA],
    "run_program": [None, ("rows",), SPILL, ANSWERS], "save_text": [SPILL],
    "load_text": ["sheet 2 2\nA1 5\nB1 =A1"],
}


def function_and_arguments():
    """Every function of the interface, the names of its arguments, and arguments for it."""
    for module_name, functions in FUNCTIONS.items():
        module = importlib.import_module(module_name)
        for name, names in functions.items():
            arguments = copy.deepcopy(ARGUMENTS[name])
            if name == "run_program":
                arguments[0] = importlib.import_module("spillsheet.compiler").compile_expression(FORMULA)
            yield getattr(module, name), names, arguments


def containers_in(value):
    """All lists and dicts in a value, at any depth."""
    found = [value] if isinstance(value, (list, dict)) else []
    if isinstance(value, dict):
        for key, part in value.items():
            found += containers_in(key) + containers_in(part)
    elif isinstance(value, (list, tuple)):
        for part in value:
            found += containers_in(part)
    return found


def spoil(value):
    """Changes all lists and dicts in a value."""
    for container in containers_in(value):
        container.clear()
        if isinstance(container, list):
            container.append("spoiled")
        else:
            container["spoiled"] = "spoiled"


class ConventionsTestCase(unittest.TestCase):
    def check_apart(self, first, second, msg):
        shared = {id(part) for part in containers_in(first)} & {id(part) for part in containers_in(second)}
        self.assertEqual(shared, set(), msg=msg)


class FunctionsTest(ConventionsTestCase):
    def test_there_are_arguments_for_every_function(self):
        names = [name for functions in FUNCTIONS.values() for name in functions]
        self.assertEqual(sorted(names), sorted(ARGUMENTS))

    def test_arguments_by_name_by_position_and_unchanged(self):
        for function, names, arguments in function_and_arguments():
            with self.subTest(function=function.__name__):
                before = copy.deepcopy(arguments)
                result = function(*arguments)
                self.assertEqual(arguments, before)
                named = dict(reversed(list(zip(names, arguments))))
                self.assertEqual(function(**named), result)
                self.assertEqual(arguments, before)
                mixed = dict(list(zip(names, arguments))[1:])
                self.assertEqual(function(arguments[0], **mixed), result)

    def test_results_are_new_and_belong_to_the_caller(self):
        for function, _, arguments in function_and_arguments():
            with self.subTest(function=function.__name__):
                before = copy.deepcopy(arguments)
                first, second = function(*arguments), function(*arguments)
                expected = copy.deepcopy(first)
                self.check_apart(first, arguments, function.__name__)
                self.check_apart(first, second, function.__name__)
                if isinstance(first, (list, dict, tuple)):
                    self.assertIsNot(first, second)
                spoil(first)
                self.assertEqual(second, expected)
                self.assertEqual(arguments, before)
                self.assertEqual(function(*arguments), expected)

    def test_arguments_after_the_star(self):
        settle = importlib.import_module("spillsheet.settle").settle
        self.assertEqual(list(NAMED_ARGUMENTS), [("spillsheet.settle", "settle")])
        state = settle(SPILL)
        known = {question: state[question] for question in list(state)[:9]}
        before = copy.deepcopy(known)
        result = settle(SPILL, known=known)
        self.assertEqual(known, before)
        self.check_apart(result, known, "known")
        known.clear()
        self.assertEqual(result, state)
        with self.assertRaises(TypeError):
            settle(SPILL, state)


class WorkbookMethodsTest(ConventionsTestCase):
    ARGUMENTS = {
        "set_cell": [(1, 1), "=A1"], "insert_rows": [1, 1], "insert_columns": [1, 1], "delete_rows": [1, 1],
        "delete_columns": [1, 1], "copy": [(0, 0, 1, 1), (1, 1)], "undo": [], "redo": [], "sheet": [],
        "state": [], "text_of": [(0, 0)], "shown": [(1, 0)], "status": [(0, 0)], "changes": [], "kept": [],
    }

    def workbook(self):
        workbook = Workbook(3, 3)
        for cell, text in (((0, 0), "=SEQ(2)"), ((0, 2), "=A1#"), ((2, 0), "5"), ((1, 1), "6")):
            workbook.set_cell(cell, text)
        workbook.undo()
        return workbook

    def told(self, workbook):
        return copy.deepcopy((workbook.sheet(), workbook.state(), workbook.changes(), workbook.kept()))

    def test_every_method_by_name(self):
        methods = METHODS["spillsheet.workbook", "Workbook"]
        self.assertEqual(sorted(name for name in methods if not name.startswith("__")), sorted(self.ARGUMENTS))
        for name, arguments in self.ARGUMENTS.items():
            with self.subTest(method=name):
                first, second = self.workbook(), self.workbook()
                result = getattr(first, name)(*arguments)
                named = dict(reversed(list(zip(methods[name], arguments))))
                self.assertEqual(getattr(second, name)(**named), result)
                self.assertEqual(self.told(first), self.told(second))

    def test_counts_that_are_not_given(self):
        for name, argument in DEFAULTS:
            self.assertEqual(argument, "count")
            first, second = self.workbook(), self.workbook()
            getattr(first, name)(1)
            getattr(second, name)(1, DEFAULTS[name, argument])
            self.assertEqual(self.told(first), self.told(second))

    def test_what_is_returned_is_not_shared(self):
        for name in ("sheet", "state", "changes", "kept"):
            with self.subTest(method=name):
                workbook = self.workbook()
                before = self.told(workbook)
                first, second = getattr(workbook, name)(), getattr(workbook, name)()
                self.check_apart(first, second, name)
                self.assertIsNot(first, second)
                spoil(first)
                self.assertEqual(self.told(workbook), before)
                workbook.redo()
                workbook.undo()
                self.assertEqual(workbook.sheet(), before[0])
                self.assertEqual(workbook.state(), before[1])

    def test_the_console_returns_texts_alone(self):
        console = Console()
        for command in ("set A1 =SEQ(2)", "show", "changes", "save", "get A1", "why A1", "undo"):
            self.assertIs(type(console.say(command)), str)


class ErrorsTest(unittest.TestCase):
    """Every kind of error, with the very value that it keeps."""

    def check(self, error_class, attribute, value, function, *arguments):
        before = copy.deepcopy(arguments)
        with self.assertRaises(errors.SheetError) as context:
            function(*arguments)
        self.assertIs(type(context.exception), error_class)
        self.assertEqual(arguments, before)
        if attribute is not None:
            self.assertIs(getattr(context.exception, attribute), value)

    def function(self, module, name):
        return getattr(importlib.import_module("spillsheet." + module), name)

    def test_any_value_that_is_wrong(self):
        waiting_chain = self.function("certificates", "waiting_chain")
        waiting_set = self.function("certificates", "waiting_set")
        for value in any_values():
            self.check(errors.BadAddress, "text", value, self.function("grid", "parse_cell"), value)
            self.check(errors.BadAddress, "text", value, self.function("grid", "parse_area"), value)
            self.check(errors.NotUndecided, "question", value, waiting_chain, CIRCLE, value)
            self.check(errors.NotUndecided, "question", value, waiting_set, CIRCLE, value)
            self.check(errors.BadCommand, "command", value, Console().say, value)
            self.check(errors.BadFile, "line", 0, self.function("files", "load_text"), value)
            if not isinstance(value, str):
                self.check(errors.BadContent, "text", value, Workbook(1, 1).set_cell, (0, 0), value)
                self.check(errors.BadFormula, "position", 0, parse, value)

    def test_the_other_errors(self):
        cell, count, workbook = (5, 5), 99, Workbook(2, 2)
        for method in (workbook.text_of, workbook.shown, workbook.status):
            self.check(errors.OutOfGrid, "cell", cell, method, cell)
        self.check(errors.OutOfGrid, "cell", cell, workbook.set_cell, cell, "5")
        for name in ("insert_rows", "insert_columns", "delete_rows", "delete_columns"):
            self.check(errors.TooLarge, "count", count, self.function("edits", name), SPILL, 0, count)
            self.check(errors.TooLarge, "count", count, getattr(workbook, name), 0, count)
        self.check(errors.NothingToUndo, None, None, workbook.undo)
        self.check(errors.NothingToRedo, None, None, workbook.redo)

    def test_the_error_named_first(self):
        # A cell outside the grid comes before a wrong text.
        self.check(errors.OutOfGrid, None, None, Workbook(1, 1).set_cell, (1, 0), "x")
        self.check(errors.OutOfGrid, None, None, Workbook(1, 1).set_cell, (1, 0), "=")
        # What is no command comes before what the workbook refuses.
        console = Console()
        for command in ("rows delete 0 99", "columns insert 99 0", "set L12 ", "copy A1:L12 M1", "copy L12:A1 L12",
                        "undo now"):
            self.check(errors.BadCommand, "command", command, console.say, command)
        # Of two areas that leave the grid, the one that is copied comes first.
        copy_cells = self.function("edits", "copy_cells")
        with self.assertRaises(errors.OutOfGrid) as context:
            copy_cells((2, 2, {}), (0, 0, 2, 2), (1, 1))
        self.assertEqual(context.exception.cell, (2, 2))


if __name__ == "__main__":
    unittest.main()
