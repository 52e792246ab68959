"""The class Workbook in spillsheet.workbook."""

import copy
import unittest

from spillsheet.dependencies import kept_questions
from spillsheet.errors import (
    BadContent, BadFormula, NothingToRedo, NothingToUndo, OutOfGrid, TooLarge,
)
from spillsheet.grid import cells_of, parse_area, parse_cell
from spillsheet.parser import parse
from spillsheet.settle import settle
from spillsheet.workbook import Workbook
from tests.answers import asked
from tests.samples import any_values
from tests.test_rules import sheet_of

LIMIT = 10 ** 9


def workbook_of(rows, columns, **texts):
    """A workbook in which these texts were set."""
    workbook = Workbook(rows, columns)
    for name, text in texts.items():
        workbook.set_cell(parse_cell(name), text)
    return workbook


def long_sum(text, count):
    """The text of a sum of so many equal references that is not deep."""
    if count == 1:
        return text
    right = long_sum(text, count // 2)
    return long_sum(text, count - count // 2) + "+" + (f"({right})" if count > 3 else right)


def everything_of(workbook):
    """All that a workbook tells, except whether there is something to undo and to redo."""
    cells = cells_of((0, 0, workbook.sheet()[0] - 1, workbook.sheet()[1] - 1))
    told = [(workbook.text_of(cell), workbook.shown(cell), workbook.status(cell)) for cell in cells]
    return copy.deepcopy((workbook.sheet(), workbook.state(), workbook.changes(), workbook.kept(),
                          len(workbook), told))


class WorkbookTestCase(unittest.TestCase):
    def refused(self, workbook, error_class, action, *arguments):
        """The error that a call raises, which must change nothing."""
        before = everything_of(workbook)
        given = copy.deepcopy(arguments)
        with self.assertRaises(error_class) as context:
            action(*arguments)
        self.assertIs(type(context.exception), error_class)
        self.assertEqual(everything_of(workbook), before)
        self.assertEqual(arguments, given)
        return context.exception

    def check_sheet(self, workbook, expected):
        self.assertEqual(workbook.sheet(), expected)
        self.assertEqual(workbook.state(), settle(expected))
        self.assertEqual(len(workbook), len(expected[2]))

    def check_changes(self, workbook, *changes):
        """Checks changes: each one is the name of a cell, what it showed, and what it shows."""
        expected = [(parse_cell(name), before, after) for name, before, after in changes]
        found = workbook.changes()
        self.assertEqual(found, expected)
        self.assertIs(type(found), list)
        for change in found:
            self.assertIs(type(change), tuple)


class NewWorkbookTest(WorkbookTestCase):
    def test_all_sizes(self):
        for rows in range(1, 13):
            for columns in range(1, 13):
                workbook = Workbook(rows, columns)
                self.check_sheet(workbook, (rows, columns, {}))
                self.assertEqual(workbook.changes(), [])
                self.assertEqual(workbook.kept(), [])

    def test_arguments_by_name(self):
        self.assertEqual(Workbook(columns=3, rows=2).sheet(), (2, 3, {}))

    def test_nothing_to_undo_or_redo(self):
        workbook = Workbook(2, 2)
        self.refused(workbook, NothingToUndo, workbook.undo)
        self.refused(workbook, NothingToRedo, workbook.redo)


class SetCellTest(WorkbookTestCase):
    def check_content(self, text, content, *shown):
        workbook = Workbook(2, 2)
        self.assertIsNone(workbook.set_cell((1, 1), text))
        self.check_sheet(workbook, (2, 2, {} if content is None else {(1, 1): content}))
        if not isinstance(content, tuple):
            self.assertEqual(workbook.text_of((1, 1)), text)
        self.assertEqual(workbook.shown((1, 1)), shown[0] if shown else content)

    def check_bad_content(self, value):
        for workbook in (Workbook(1, 1), workbook_of(1, 1, A1="7")):
            error = self.refused(workbook, BadContent, workbook.set_cell, (0, 0), value)
            self.assertIs(error.text, value)

    def check_bad_formula(self, text, position):
        for workbook in (Workbook(1, 1), workbook_of(1, 1, A1="=2+3")):
            error = self.refused(workbook, BadFormula, workbook.set_cell, (0, 0), text)
            self.assertEqual(error.position, position, msg=text)

    def test_arguments_by_name(self):
        workbook = Workbook(2, 2)
        workbook.set_cell(text="5", cell=(1, 0))
        self.assertEqual(workbook.sheet(), (2, 2, {(1, 0): 5}))

    def test_the_example_of_the_document(self):
        self.check_bad_formula("=1+", 3)

    def test_numbers(self):
        for number in (0, 1, 9, 10, 15, 100, 101, 90000, LIMIT - 1, LIMIT):
            self.check_content(str(number), number)
            if number:
                self.check_content("-" + str(number), -number)

    def test_numbers_beyond_the_limits(self):
        for number in (LIMIT + 1, 2 * LIMIT, 9999999999, 10 ** 10, 10 ** 15, 10 ** 59, 10 ** 200):
            self.check_bad_content(str(number))
            self.check_bad_content("-" + str(number))
        self.check_bad_content("1" * 10000)

    def test_numbers_with_leading_zeros(self):
        for text in ("00", "01", "-01", "0000000000", "0123", "01000000000", "-00"):
            self.check_bad_content(text)

    def test_minus_zero_and_other_signs(self):
        for text in ("-0", "-", "--1", "+1", "+0", "1-", "-+1", "1-2", "- 1", "~1"):
            self.check_bad_content(text)

    def test_spaces_around_numbers(self):
        for text in (" 1", "1 ", " 1 ", "- 1", "1 2", " ", "  ", "\n", "1\n", "\n1", " -1", "-1 "):
            self.check_bad_content(text)

    def test_texts_of_other_kinds(self):
        for text in ("x", "A1", "1.0", "1e3", "1_000", "0x10", "1,000", "#REF", "?", "TRUE", "None", "'1",
                     " =1", "-=1", "\n=1", "1=1", "\u0661", "1\u0661", "\uff11", "\u00b2", "\u22121"):
            self.check_bad_content(text)

    def test_values_that_are_not_strings(self):
        for value in any_values():
            if not isinstance(value, str):
                self.check_bad_content(value)
        for value in (5, 0, -3, True, ("number", 5), ["5"], b"5", 1.5):
            self.check_bad_content(value)

    def test_empty(self):
        self.check_content("", None)
        workbook = workbook_of(1, 2, A1="5", B1="=A1")
        workbook.set_cell((0, 0), "")
        self.check_sheet(workbook, sheet_of(1, 2, B1="A1"))
        workbook.set_cell((0, 1), "")
        self.check_sheet(workbook, (1, 2, {}))

    def test_formulas(self):
        self.check_content("=1+2", parse("1+2"), 3)
        self.check_content("=A1", ("cell", 0, 0), None)
        self.check_content("=  1 +  2  ", parse("1+2"), 3)
        self.check_content("=#REF", ("badref",), "#REF")
        self.check_content("=-5", ("negate", ("number", 5)), -5)
        self.check_content("=0=0", parse("0=0"), 1)
        self.check_content("=(((A1)))", ("cell", 0, 0), None)
        self.check_content("=L12", ("cell", 11, 11), "#REF")
        self.check_content("=SEQ(2)", parse("SEQ(2)"), "#SPILL")

    def test_faults_of_formulas_count_from_the_sign(self):
        for text, position in (
            ("=", 1), ("= ", 2), ("==", 1), ("==1", 1), ("=1+*2", 3), ("=B2#+A13", 5), ("=1 2", 3),
            ("=x", 1), ("=\n", 1), ("=1\n", 2), ("=(1", 3), ("=1)", 2), ("=SUM(", 5), ("=SUM()", 5),
            ("=SUM(1,2)", 1), ("=1+FOO(1)", 3), ("=01", 1), ("=1000000001", 1), ("=A0", 1), ("=M1", 1),
            ("=A01", 1), ("=B1:A1", 1), ("=1<2<3", 4), ("=" + "(" * 21 + "1" + ")" * 21, 21),
            ("=1+A1:", 5), ("=A", 1), ("=1.5", 2), ("= 1 + ", 6),
        ):
            self.check_bad_formula(text, position)

    def test_formulas_that_are_too_long_or_too_deep(self):
        self.check_content("=" + " " * 199 + "1", ("number", 1), 1)
        self.check_bad_formula("=" + " " * 200 + "1", 201)
        self.check_bad_formula("=" + "x" * 201, 201)
        self.check_bad_formula("=" + "-" * 12 + "1", 1)
        workbook = workbook_of(1, 1, A1="=" + "-" * 11 + "1")
        self.assertEqual(workbook.shown((0, 0)), -1)

    def test_cells_outside_the_grid(self):
        workbook = workbook_of(2, 3, A1="5")
        for cell in ((2, 0), (0, 3), (2, 3), (11, 11), (12, 0), (-1, 0), (0, -1), (10 ** 59, 0)):
            for text in ("5", "", "=1+", "x", None, 7):
                error = self.refused(workbook, OutOfGrid, workbook.set_cell, cell, text)
                self.assertIs(error.cell, cell)

    def test_every_cell_of_the_grid(self):
        workbook = Workbook(12, 12)
        for row, column in cells_of((0, 0, 11, 11)):
            workbook.set_cell((row, column), str(12 * row - column))
        self.assertEqual(len(workbook), 144)
        self.assertEqual(workbook.shown((11, 11)), 121)
        self.assertEqual(workbook.text_of((0, 11)), "-11")


class AsksTest(WorkbookTestCase):
    def test_text_of(self):
        workbook = workbook_of(2, 2, A1="-12", B1="= ( A1 + 2 ) * 3 ", A2="=SUM( (A1:B1) )")
        self.assertEqual(workbook.text_of((0, 0)), "-12")
        self.assertEqual(workbook.text_of((0, 1)), "=(A1+2)*3")
        self.assertEqual(workbook.text_of(cell=(1, 0)), "=SUM(A1:B1)")
        self.assertEqual(workbook.text_of((1, 1)), "")

    def test_text_of_a_formula_that_became_long(self):
        text = "=" + long_sum("A1:B9", 28)
        self.assertLessEqual(len(text), 201)
        workbook = workbook_of(9, 1, A1=text)
        workbook.insert_rows(0, 3)
        found = workbook.text_of((3, 0))
        self.assertEqual(found, text.replace("A1:B9", "A4:B12"))
        self.assertGreater(len(found), 201)
        self.refused(workbook, BadFormula, workbook.set_cell, (0, 0), found)

    def test_shown(self):
        workbook = workbook_of(3, 3, A1="=SEQ(2,2)", C3="7", C1="=A1:A2", A3="=SEQ(1,3)")
        self.assertEqual(workbook.shown((1, 1)), 4)
        self.assertEqual(workbook.shown(cell=(2, 2)), 7)
        self.assertEqual(workbook.shown((0, 2)), 1)
        self.assertEqual(workbook.shown((1, 2)), 3)
        self.assertEqual(workbook.shown((2, 0)), "#SPILL")
        self.assertIsNone(workbook.shown((2, 1)))

    def test_what_is_undecided(self):
        workbook = workbook_of(2, 2, A1="=B1", B1="=A1")
        self.assertEqual(workbook.shown((0, 0)), "?")
        self.assertEqual(workbook.status((0, 0)), "single")
        workbook = workbook_of(1, 2, A1="=SEQ(1,A1)")
        self.assertEqual(workbook.shown((0, 1)), "?")
        self.assertEqual(workbook.status((0, 0)), "?")
        self.assertEqual(workbook.status((0, 1)), "empty")

    def test_status(self):
        workbook = workbook_of(3, 3, A1="=SEQ(2)", B1="5", C1="=B1", A3="=SEQ(2)")
        self.assertEqual(workbook.status((0, 0)), "spilled")
        self.assertEqual(workbook.status((1, 0)), "empty")
        self.assertEqual(workbook.status(cell=(0, 1)), "number")
        self.assertEqual(workbook.status((0, 2)), "single")
        self.assertEqual(workbook.status((2, 0)), "blocked")

    def test_cells_outside_the_grid(self):
        workbook = workbook_of(2, 3, A1="5")
        for cell in ((2, 0), (0, 3), (2, 3), (11, 11), (12, 0), (-1, 0), (0, 10 ** 59)):
            for ask in (workbook.text_of, workbook.shown, workbook.status):
                self.assertIs(self.refused(workbook, OutOfGrid, ask, cell).cell, cell)

    def test_sheet_and_state_belong_to_the_caller(self):
        workbook = workbook_of(2, 2, A1="=SEQ(2)", B1="5")
        workbook.set_cell((1, 1), "=B1")
        before = everything_of(workbook)
        workbook.sheet()[2][0, 0] = 9
        workbook.sheet()[2].clear()
        workbook.state().clear()
        workbook.state()["shown", (0, 0)] = 9
        workbook.changes().append("changed")
        workbook.changes().clear()
        workbook.kept().append("changed")
        self.assertEqual(everything_of(workbook), before)
        self.assertIsNot(workbook.sheet(), workbook.sheet())
        self.assertIsNot(workbook.sheet()[2], workbook.sheet()[2])
        self.assertIsNot(workbook.state(), workbook.state())
        held = workbook.sheet()
        workbook.set_cell((0, 0), "")
        self.assertEqual(held, before[0])
        workbook.undo()
        self.assertEqual(workbook.sheet(), held)


class EditsTest(WorkbookTestCase):
    def test_insert_and_delete(self):
        workbook = workbook_of(2, 2, A1="5", B2="=A1")
        self.assertIsNone(workbook.insert_rows(0))
        self.check_sheet(workbook, sheet_of(3, 2, A2=5, B3="A2"))
        self.assertIsNone(workbook.insert_columns(1, 2))
        self.check_sheet(workbook, sheet_of(3, 4, A2=5, D3="A2"))
        self.assertIsNone(workbook.delete_columns(1))
        self.check_sheet(workbook, sheet_of(3, 3, A2=5, C3="A2"))
        self.assertIsNone(workbook.delete_rows(0, 2))
        self.check_sheet(workbook, sheet_of(1, 3, C1="#REF"))

    def test_copy(self):
        workbook = workbook_of(3, 3, A1="5", B1="=A1")
        self.assertIsNone(workbook.copy((0, 0, 0, 1), (1, 1)))
        self.check_sheet(workbook, sheet_of(3, 3, A1=5, B1="A1", B2=5, C2="B2"))

    def test_arguments_by_name(self):
        workbook = workbook_of(2, 2, A1="5")
        workbook.insert_rows(count=2, at=0)
        workbook.insert_columns(count=1, at=1)
        workbook.insert_rows(at=4)
        self.check_sheet(workbook, sheet_of(5, 3, A3=5))
        workbook.copy(target=(0, 1), area=(2, 0, 2, 0))
        workbook.delete_rows(count=2, at=1)
        workbook.delete_columns(at=0, count=1)
        self.check_sheet(workbook, sheet_of(3, 2, A1=5))

    def test_one_row_or_column_if_no_count_is_given(self):
        workbook = Workbook(5, 5)
        workbook.insert_rows(at=0)
        workbook.insert_columns(5)
        self.check_sheet(workbook, (6, 6, {}))
        workbook.delete_rows(at=0)
        workbook.delete_columns(5)
        self.check_sheet(workbook, (5, 5, {}))

    def test_too_large(self):
        workbook = workbook_of(11, 3, A1="5")
        for action, at, count in (
            (workbook.insert_rows, 0, 2), (workbook.insert_rows, 12, 1), (workbook.insert_rows, -1, 1),
            (workbook.insert_columns, 0, 10), (workbook.insert_columns, 4, 1),
            (workbook.delete_rows, 0, 11), (workbook.delete_rows, 10, 2), (workbook.delete_rows, -1, 1),
            (workbook.delete_columns, 0, 3), (workbook.delete_columns, 3, 1),
            (workbook.delete_columns, 0, 10 ** 59),
        ):
            self.assertIs(self.refused(workbook, TooLarge, action, at, count).count, count)
        workbook.insert_rows(11)
        self.assertEqual(self.refused(workbook, TooLarge, workbook.insert_rows, 0).count, 1)
        self.assertEqual(self.refused(workbook, TooLarge, workbook.delete_columns, 3).count, 1)

    def test_copies_that_leave_the_grid(self):
        workbook = workbook_of(3, 4, A1="5")
        for area, target, cell in (("A1:A4", "A1", (3, 0)), ("A1:B2", "D1", (1, 4)),
                                   ("A1:E5", "L12", (4, 4)), ("C3:C3", "A4", (3, 0))):
            error = self.refused(workbook, OutOfGrid, workbook.copy, parse_area(area), parse_cell(target))
            self.assertEqual(error.cell, cell)


class UndoTest(WorkbookTestCase):
    def test_there_and_back(self):
        workbook = Workbook(2, 2)
        sheets = [workbook.sheet()]
        for action, arguments in (
            (workbook.set_cell, ((0, 0), "5")), (workbook.set_cell, ((1, 1), "=A1")),
            (workbook.insert_rows, (1,)), (workbook.copy, ((0, 0, 2, 1), (0, 0))),
            (workbook.insert_columns, (0, 3)), (workbook.delete_rows, (0,)),
            (workbook.delete_columns, (1, 2)), (workbook.set_cell, ((0, 0), "")),
        ):
            action(*arguments)
            sheets.append(workbook.sheet())
        for _ in range(3):
            for sheet in sheets[-2::-1]:
                self.assertIsNone(workbook.undo())
                self.check_sheet(workbook, sheet)
            self.refused(workbook, NothingToUndo, workbook.undo)
            for sheet in sheets[1:]:
                self.assertIsNone(workbook.redo())
                self.check_sheet(workbook, sheet)
            self.refused(workbook, NothingToRedo, workbook.redo)

    def test_a_new_change_makes_redo_impossible(self):
        workbook = workbook_of(1, 1, A1="1")
        workbook.set_cell((0, 0), "2")
        workbook.undo()
        workbook.set_cell((0, 0), "3")
        self.refused(workbook, NothingToRedo, workbook.redo)
        self.assertEqual(workbook.shown((0, 0)), 3)
        workbook.undo()
        self.assertEqual(workbook.shown((0, 0)), 1)
        workbook.redo()
        self.assertEqual(workbook.shown((0, 0)), 3)
        workbook.undo()
        workbook.undo()
        self.assertEqual(len(workbook), 0)
        self.refused(workbook, NothingToUndo, workbook.undo)

    def test_every_kind_of_change_makes_redo_impossible(self):
        for name, arguments in (
            ("set_cell", ((0, 0), "1")), ("insert_rows", (0,)), ("insert_columns", (0,)),
            ("delete_rows", (0,)), ("delete_columns", (0,)), ("copy", ((0, 0, 0, 0), (1, 1))),
        ):
            workbook = workbook_of(2, 2, A1="1", B2="2")
            workbook.undo()
            getattr(workbook, name)(*arguments)
            self.refused(workbook, NothingToRedo, workbook.redo)
            workbook.undo()
            self.check_sheet(workbook, sheet_of(2, 2, A1=1))

    def test_a_call_that_leaves_the_sheet_as_it_is_is_a_change(self):
        for name, arguments in (
            ("set_cell", ((0, 0), "1")), ("set_cell", ((1, 0), "")), ("copy", ((0, 0, 1, 1), (0, 0))),
            ("copy", ((0, 0, 0, 0), (0, 0))),
        ):
            workbook = workbook_of(2, 2, A1="1")
            workbook.set_cell((1, 1), "2")
            workbook.undo()
            getattr(workbook, name)(*arguments)
            self.check_sheet(workbook, sheet_of(2, 2, A1=1))
            self.refused(workbook, NothingToRedo, workbook.redo)
            self.assertEqual(workbook.changes(), [])
            self.assertEqual(workbook.kept(), sorted(settle(workbook.sheet())))
            workbook.undo()
            self.check_sheet(workbook, sheet_of(2, 2, A1=1))
            workbook.undo()
            self.check_sheet(workbook, (2, 2, {}))

    def test_a_call_that_raises_an_error_is_no_change(self):
        workbook = workbook_of(2, 2, A1="1")
        workbook.set_cell((0, 0), "2")
        workbook.undo()
        for error_class, action, arguments in (
            (OutOfGrid, workbook.set_cell, ((2, 0), "1")), (BadContent, workbook.set_cell, ((0, 0), "x")),
            (BadFormula, workbook.set_cell, ((0, 0), "=")), (TooLarge, workbook.insert_rows, (3,)),
            (TooLarge, workbook.insert_columns, (0, 11)), (TooLarge, workbook.delete_rows, (0, 2)),
            (TooLarge, workbook.delete_columns, (2,)), (OutOfGrid, workbook.copy, ((0, 0, 2, 0), (0, 0))),
            (OutOfGrid, workbook.shown, ((2, 0),)),
        ):
            self.refused(workbook, error_class, action, *arguments)
        workbook.redo()
        self.assertEqual(workbook.shown((0, 0)), 2)

    def test_asking_does_not_get_in_the_way(self):
        workbook = workbook_of(1, 2, A1="1", B1="=A1+1")
        workbook.undo()
        everything_of(workbook)
        workbook.redo()
        everything_of(workbook)
        workbook.undo()
        workbook.undo()
        self.check_sheet(workbook, (1, 2, {}))


class ChangesTest(WorkbookTestCase):
    def test_the_example_of_the_document(self):
        workbook = Workbook(2, 2)
        workbook.set_cell((0, 0), "=SEQ(2)")
        self.check_changes(workbook, ("A1", None, 1), ("A2", None, 2))

    def test_all_that_is_shown_counts(self):
        workbook = workbook_of(3, 2, A1="=SEQ(3)", B1="=SUM(A1#)", B2="=A1")
        workbook.set_cell((1, 0), "7")
        self.check_changes(workbook, ("A1", 1, "#SPILL"), ("B1", 6, "#SPILL"), ("A2", 2, 7),
                           ("B2", 1, "#SPILL"), ("A3", 3, None))
        workbook.undo()
        self.check_changes(workbook, ("A1", "#SPILL", 1), ("B1", "#SPILL", 6), ("A2", 7, 2),
                           ("B2", "#SPILL", 1), ("A3", None, 3))
        workbook.redo()
        self.check_changes(workbook, ("A1", 1, "#SPILL"), ("B1", 6, "#SPILL"), ("A2", 2, 7),
                           ("B2", 1, "#SPILL"), ("A3", 3, None))

    def test_undecided_cells(self):
        workbook = workbook_of(1, 2, A1="=B1", B1="=A1")
        self.check_changes(workbook, ("A1", None, "?"), ("B1", None, "?"))
        workbook.set_cell((0, 0), "=B1+1")
        self.check_changes(workbook)
        workbook.set_cell((0, 1), "0")
        self.check_changes(workbook, ("A1", "?", 1), ("B1", "?", 0))
        workbook.set_cell((0, 1), "")
        self.check_changes(workbook, ("B1", 0, None))

    def test_what_shows_the_same_is_not_told(self):
        workbook = workbook_of(1, 2, A1="3", B1="=A1<5")
        workbook.set_cell((0, 0), "4")
        self.check_changes(workbook, ("A1", 3, 4))
        workbook.set_cell((0, 0), "=2+2")
        self.check_changes(workbook)

    def test_only_the_last_change(self):
        workbook = workbook_of(2, 2, A1="1", B1="2", B2="3")
        self.check_changes(workbook, ("B2", None, 3))

    def test_a_grid_that_grows(self):
        workbook = workbook_of(2, 2, A1="1", B2="=A1")
        workbook.insert_rows(1)
        self.check_changes(workbook, ("B2", 1, None), ("A3", "", None), ("B3", "", 1))
        workbook.insert_columns(2, 1)
        self.check_changes(workbook, ("C1", "", None), ("C2", "", None), ("C3", "", None))
        workbook.undo()
        self.check_changes(workbook, ("C1", None, ""), ("C2", None, ""), ("C3", None, ""))

    def test_a_grid_that_shrinks(self):
        workbook = workbook_of(2, 3, A1="1", B1="2", C1="=A1+B1", C2="=SEQ(2)")
        workbook.delete_columns(0)
        self.check_changes(workbook, ("A1", 1, 2), ("B1", 2, "#REF"), ("C1", 3, ""),
                           ("B2", None, "#SPILL"), ("C2", "#SPILL", ""))
        workbook.undo()
        self.check_changes(workbook, ("A1", 2, 1), ("B1", "#REF", 2), ("C1", "", 3),
                           ("B2", "#SPILL", None), ("C2", "", "#SPILL"))

    def test_spills_that_a_larger_grid_has_room_for(self):
        workbook = workbook_of(2, 1, A2="=SEQ(2)")
        workbook.insert_rows(2)
        self.check_changes(workbook, ("A2", "#SPILL", 1), ("A3", "", 2))


class KeptTest(WorkbookTestCase):
    def test_the_last_change_undo_or_redo(self):
        workbook = workbook_of(1, 3, A1="1", C1="=A1")
        workbook.set_cell((0, 1), "5")
        kept = sorted(asked("columns C1", "element C1 0 0", "rows C1", "shown A1", "shown C1", "status C1"))
        self.assertEqual(workbook.kept(), kept)
        workbook.undo()
        self.assertEqual(workbook.kept(), kept)
        workbook.undo()
        self.assertEqual(workbook.kept(), asked("shown A1", "shown B1"))
        workbook.redo()
        self.assertEqual(workbook.kept(), asked("shown A1", "shown B1"))

    def test_the_same_as_kept_questions(self):
        workbook = workbook_of(2, 2, A1="=SEQ(2)")
        before = workbook.sheet()
        workbook.set_cell((0, 1), "=A2")
        after = workbook.sheet()
        self.assertEqual(workbook.kept(), kept_questions(before, after))
        workbook.undo()
        self.assertEqual(workbook.kept(), kept_questions(after, before))

    def test_grids_of_other_sizes_keep_nothing(self):
        workbook = workbook_of(2, 2, A1="1")
        for action in (workbook.insert_rows, workbook.delete_columns, workbook.insert_columns):
            action(1)
            self.assertEqual(workbook.kept(), [])
            workbook.undo()
            self.assertEqual(workbook.kept(), [])


class EqualityTest(WorkbookTestCase):
    def test_equal_sheets(self):
        first, second = workbook_of(2, 2, A1="5", B1="= A1 + 1"), workbook_of(2, 2, B1="=A1+1", A1="5")
        self.assertTrue(first == second)
        self.assertFalse(first != second)
        self.assertTrue(first == first)
        self.assertTrue(Workbook(3, 4) == Workbook(3, 4))

    def test_what_led_to_the_sheet_does_not_matter(self):
        first, second = Workbook(2, 2), Workbook(1, 3)
        first.set_cell((0, 0), "5")
        second.insert_rows(0)
        second.delete_columns(1)
        self.assertFalse(first == second)
        second.set_cell((0, 0), "5")
        self.assertTrue(first == second)
        first.state()
        first.undo()
        first.redo()
        self.assertTrue(first == second)

    def test_other_sheets(self):
        base = workbook_of(2, 2, A1="5")
        for other in (Workbook(2, 2), workbook_of(2, 3, A1="5"), workbook_of(3, 2, A1="5"),
                      workbook_of(2, 2, A1="6"), workbook_of(2, 2, A1="=5"), workbook_of(2, 2, B1="5"),
                      workbook_of(2, 2, A1="5", B2="5")):
            self.assertFalse(base == other)
            self.assertFalse(other == base)
            self.assertTrue(base != other)

    def test_other_values(self):
        workbook = workbook_of(1, 1, A1="5")
        for value in any_values() + [workbook.sheet(), object(), Workbook, 1.5, b"A1"]:
            self.assertFalse(workbook == value)
            self.assertFalse(value == workbook)
            self.assertTrue(workbook != value)

    def test_two_workbooks_share_nothing(self):
        first, second = Workbook(2, 2), Workbook(2, 2)
        first.set_cell((0, 0), "5")
        self.check_sheet(second, (2, 2, {}))
        self.assertEqual(second.changes(), [])
        self.refused(second, NothingToUndo, second.undo)


class LengthTest(WorkbookTestCase):
    def test_cells_that_are_not_empty(self):
        workbook = Workbook(3, 3)
        self.assertEqual(len(workbook), 0)
        workbook.set_cell((0, 0), "=SEQ(3)")
        self.assertEqual(len(workbook), 1)
        workbook.set_cell((0, 1), "0")
        self.assertEqual(len(workbook), 2)
        workbook.set_cell((0, 1), "5")
        self.assertEqual(len(workbook), 2)
        workbook.delete_rows(0)
        self.assertEqual(len(workbook), 0)
        workbook.undo()
        workbook.set_cell((0, 0), "")
        self.assertEqual(len(workbook), 1)


if __name__ == "__main__":
    unittest.main()
