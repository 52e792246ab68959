"""Edits of sheets in spillsheet.edits."""

import copy
import random
import unittest

from spillsheet.edits import copy_cells, delete_columns, delete_rows, insert_columns, insert_rows
from spillsheet.errors import OutOfGrid, TooLarge
from spillsheet.grid import cells_of, parse_area, parse_cell
from spillsheet.parser import parse
from spillsheet.printer import print_expression
from spillsheet.references import translate
from spillsheet.sheets import is_sheet
from tests.random_expressions import random_sheet
from tests.test_rules import sheet_of

BADREF = ("badref",)
INTERVALS = [(low, high) for low in range(12) for high in range(low, 12)]


def exchanged(sheet):
    """The sheet with rows and columns exchanged, also in references."""
    rows, columns, contents = sheet
    return (columns, rows, {
        (column, row): exchanged_expression(content) for (row, column), content in contents.items()
    })


def exchanged_expression(part):
    if not isinstance(part, tuple):
        return part
    if part and part[0] in ("cell", "spill"):
        return (part[0], part[2], part[1])
    if part and part[0] == "range":
        return (part[0], part[2], part[1], part[4], part[3])
    return tuple(exchanged_expression(inner) for inner in part)


def with_rows(part, change):
    """An expression in which change is applied to every reference."""
    if not isinstance(part, tuple):
        return part
    if part and part[0] in ("cell", "spill", "range"):
        return change(part)
    return tuple(with_rows(inner, change) for inner in part)


def slow_inserted(reference, at, count):
    """Point 23, word by word."""
    if reference[0] == "range":
        kind, top, left, bottom, right = reference
        if top >= at:
            top += count
        if bottom >= at:
            bottom += count
        return BADREF if bottom > 11 or top > 11 else (kind, top, left, bottom, right)
    kind, row, column = reference
    if row >= at:
        row += count
    return BADREF if row > 11 else (kind, row, column)


def slow_deleted(reference, at, count):
    """Point 24, word by word."""
    is_deleted = range(at, at + count)
    if reference[0] == "range":
        kind, top, left, bottom, right = reference
        if top in is_deleted:
            top = at
        elif top >= at + count:
            top -= count
        if bottom in is_deleted:
            bottom = at - 1
        elif bottom >= at + count:
            bottom -= count
        return BADREF if bottom < top else (kind, top, left, bottom, right)
    kind, row, column = reference
    if row in is_deleted:
        return BADREF
    return (kind, row - count if row >= at + count else row, column)


def slow_insert_rows(sheet, at, count):
    rows, columns, contents = sheet
    return (rows + count, columns, {
        (row + count if row >= at else row, column):
            with_rows(content, lambda reference: slow_inserted(reference, at, count))
        for (row, column), content in contents.items()
    })


def slow_delete_rows(sheet, at, count):
    rows, columns, contents = sheet
    return (rows - count, columns, {
        (row - count if row >= at + count else row, column):
            with_rows(content, lambda reference: slow_deleted(reference, at, count))
        for (row, column), content in contents.items() if not at <= row < at + count
    })


class EditTestCase(unittest.TestCase):
    def unchanged(self, sheet, edit, *arguments):
        """What edit returns, which must not be anything that it was given."""
        before = copy.deepcopy(sheet)
        order = list(sheet[2])
        result = edit(sheet, *arguments)
        self.assertEqual(sheet, before)
        self.assertEqual(list(sheet[2]), order)
        self.assertTrue(is_sheet(result))
        self.assertIsNot(result, sheet)
        self.assertIsNot(result[2], sheet[2])
        result[2]["changed"] = True
        self.assertEqual(sheet, before)
        del result[2]["changed"]
        return result

    def refused(self, error_class, edit, *arguments):
        before = copy.deepcopy(arguments)
        with self.assertRaises(error_class) as context:
            edit(*arguments)
        self.assertEqual(arguments, before)
        return context.exception


class RowsAndColumnsTestCase(EditTestCase):
    def check(self, edit_rows, edit_columns, sheet, at, count, expected):
        """Checks an edit of rows, and the same edit of columns after exchanging both."""
        self.assertEqual(self.unchanged(sheet, edit_rows, at, count), expected, msg=(sheet, at, count))
        self.assertEqual(self.unchanged(exchanged(sheet), edit_columns, at, count),
                         exchanged(expected), msg=(sheet, at, count))

    def check_formula(self, edits, size, at, count, before, after):
        """Checks what becomes of the references of a formula in a cell that stays in its place."""
        edit_rows, edit_columns, new_size = edits
        sheet = (size, 2, {(0, 1): parse(before)})
        contents = {(count if edits is INSERT and at == 0 else 0, 1): parse(after)}
        self.check(edit_rows, edit_columns, sheet, at, count, (new_size(size, count), 2, contents))


INSERT = (insert_rows, insert_columns, lambda size, count: size + count)
DELETE = (delete_rows, delete_columns, lambda size, count: size - count)


class InsertTest(RowsAndColumnsTestCase):
    def check_insert(self, sheet, at, count, expected):
        self.check(insert_rows, insert_columns, sheet, at, count, expected)

    def check_references(self, at, count, before, after, size=6):
        self.check_formula(INSERT, size, at, count, before, after)

    def test_the_example_of_the_document(self):
        sheet = insert_rows((2, 1, {(0, 0): 5, (1, 0): ("range", 0, 0, 1, 0)}), 1, 1)
        self.assertEqual((sheet[0], sheet[1], sorted(sheet[2].items())),
                         (3, 1, [((0, 0), 5), ((2, 0), ("range", 0, 0, 2, 0))]))

    def test_arguments_by_name(self):
        sheet = (1, 1, {(0, 0): 4})
        self.assertEqual(insert_rows(count=2, at=1, sheet=sheet), (3, 1, {(0, 0): 4}))
        self.assertEqual(insert_columns(count=2, at=0, sheet=sheet), (1, 3, {(0, 2): 4}))

    def test_contents_from_the_row_on_move(self):
        sheet = sheet_of(3, 2, A1=1, B1=2, A2=3, B3=4)
        self.check_insert(sheet, 0, 1, sheet_of(4, 2, A2=1, B2=2, A3=3, B4=4))
        self.check_insert(sheet, 1, 2, sheet_of(5, 2, A1=1, B1=2, A4=3, B5=4))
        self.check_insert(sheet, 2, 1, sheet_of(4, 2, A1=1, B1=2, A2=3, B4=4))
        self.check_insert(sheet, 3, 9, sheet_of(12, 2, A1=1, B1=2, A2=3, B3=4))
        self.check_insert((1, 1, {}), 0, 11, (12, 1, {}))

    def test_cells_before_at_and_behind(self):
        self.check_references(2, 1, "A2+A3+A4", "A2+A4+A5")
        self.check_references(2, 3, "A2#+A3#+A4#", "A2#+A6#+A7#")
        self.check_references(0, 2, "A1+B1#", "A3+B3#")
        self.check_references(6, 1, "A6+A7+A8#", "A6+A8+A9#")

    def test_ranges_before_at_inside_and_behind(self):
        self.check_references(3, 2, "A1:A3", "A1:A3")
        self.check_references(3, 2, "A2:A4", "A2:A6")
        self.check_references(3, 2, "A3:B5", "A3:B7")
        self.check_references(3, 2, "A4:A5", "A6:A7")
        self.check_references(3, 2, "A5:A6", "A7:A8")
        self.check_references(3, 2, "A4:A4", "A6:A6")
        self.check_references(0, 1, "A1:A1", "A2:A2")

    def test_rows_beyond_the_grid_move_as_well(self):
        self.check_references(1, 2, "A9+B10#+A8:A10", "A11+B12#+A10:A12", size=3)
        self.check_references(3, 2, "A4+A11+A5:B9", "A6+#REF+A7:B11", size=3)

    def test_references_that_leave_the_largest_grid_are_lost(self):
        self.check_references(1, 2, "A10+A11+A12#", "A12+#REF+#REF")
        self.check_references(1, 2, "A2:A10", "A4:A12")
        self.check_references(1, 2, "A2:A11", "#REF")
        self.check_references(1, 2, "A1:A11", "#REF")
        self.check_references(1, 6, "A12:A12+A6#", "#REF+A12#")

    def test_twelve_rows_and_no_more(self):
        for rows in range(1, 13):
            for at in range(-2, 15):
                for count in range(1, 14):
                    sheet = (rows, 3, {(rows - 1, 2): 8})
                    if 0 <= at <= rows and rows + count <= 12:
                        place = rows - 1 + count if at <= rows - 1 else rows - 1
                        self.check_insert(sheet, at, count, (rows + count, 3, {(place, 2): 8}))
                    else:
                        for edit, tried in ((insert_rows, sheet), (insert_columns, exchanged(sheet))):
                            error = self.refused(TooLarge, edit, tried, at, count)
                            self.assertEqual(error.count, count)

    def test_too_large_keeps_the_very_count(self):
        for count in (10 ** 9, 10 ** 60 - 1):
            for at in (0, 1, 10 ** 60 - 1):
                for edit in (insert_rows, insert_columns):
                    self.assertIs(self.refused(TooLarge, edit, (2, 2, {}), at, count).count, count)
        self.assertEqual(self.refused(TooLarge, insert_rows, (2, 5, {}), 3, 1).count, 1)
        self.assertEqual(self.refused(TooLarge, insert_columns, (5, 2, {}), 3, 1).count, 1)
        self.assertEqual(self.refused(TooLarge, insert_rows, (12, 1, {}), 0, 1).count, 1)

    def test_only_one_axis_is_limited(self):
        self.assertEqual(insert_rows((3, 12, {}), 0, 9), (12, 12, {}))
        self.assertEqual(insert_columns((12, 3, {}), 0, 9), (12, 12, {}))

    def test_all_references(self):
        for at in range(0, 6):
            for count in range(1, 8):
                for first, last in INTERVALS:
                    for reference in (("range", first, 1, last, 3), ("cell", last, 3), ("spill", last, 0)):
                        sheet = (5, 1, {(at - 1, 0): reference} if at else {})
                        expected = slow_insert_rows(sheet, at, count)
                        self.check_insert(sheet, at, count, expected)

    def test_random_sheets(self):
        source = random.Random(23)
        for _ in range(400):
            rows = source.randrange(1, 12)
            sheet = random_sheet(source, rows, source.randrange(1, 8), 4)
            at, count = source.randrange(rows + 1), source.randrange(1, 13 - rows)
            self.check_insert(sheet, at, count, slow_insert_rows(sheet, at, count))


class DeleteTest(RowsAndColumnsTestCase):
    def check_delete(self, sheet, at, count, expected):
        self.check(delete_rows, delete_columns, sheet, at, count, expected)

    def check_references(self, at, count, before, after, size=6):
        self.check_formula(DELETE, size, at, count, before, after)

    def test_the_examples_of_the_document(self):
        self.check_delete((2, 1, {(0, 0): 5, (1, 0): ("cell", 0, 0)}), 0, 1, (1, 1, {(0, 0): BADREF}))
        self.assertEqual(self.refused(TooLarge, delete_rows, (2, 1, {}), 0, 2).count, 2)

    def test_arguments_by_name(self):
        sheet = (2, 2, {(1, 1): 4})
        self.assertEqual(delete_rows(count=1, at=0, sheet=sheet), (1, 2, {(0, 1): 4}))
        self.assertEqual(delete_columns(count=1, at=0, sheet=sheet), (2, 1, {(1, 0): 4}))

    def test_contents_are_lost_and_move(self):
        sheet = sheet_of(4, 2, A1=1, B2=2, A3=3, B4=4)
        self.check_delete(sheet, 0, 1, sheet_of(3, 2, B1=2, A2=3, B3=4))
        self.check_delete(sheet, 1, 2, sheet_of(2, 2, A1=1, B2=4))
        self.check_delete(sheet, 1, 3, sheet_of(1, 2, A1=1))
        self.check_delete(sheet, 0, 3, sheet_of(1, 2, B1=4))
        self.check_delete(sheet, 3, 1, sheet_of(3, 2, A1=1, B2=2, A3=3))

    def test_cells_before_at_and_behind(self):
        self.check_references(2, 2, "A2+A3+A4+A5", "A2+#REF+#REF+A3")
        self.check_references(2, 2, "A2#+A3#+A4#+A5#", "A2#+#REF+#REF+A3#")
        self.check_references(5, 1, "A5+A6+A7", "A5+#REF+A6")

    def test_ranges_that_keep_all_their_rows(self):
        self.check_references(3, 2, "A1:A3", "A1:A3")
        self.check_references(3, 2, "A6:B8", "A4:B6")
        self.check_references(1, 1, "A1:A1+A3:A3", "A1:A1+A2:A2")

    def test_ranges_that_shrink(self):
        self.check_references(3, 2, "A2:A8", "A2:A6")
        self.check_references(3, 2, "A3:A6", "A3:A4")

    def test_ranges_that_lose_their_top(self):
        self.check_references(3, 2, "A4:A8", "A4:A6")
        self.check_references(3, 2, "A5:A8", "A4:A6")
        self.check_references(3, 2, "A5:A6", "A4:A4")

    def test_ranges_that_lose_their_bottom(self):
        self.check_references(3, 2, "A2:A4", "A2:A3")
        self.check_references(3, 2, "A2:A5", "A2:A3")
        self.check_references(3, 2, "A3:A5", "A3:A3")

    def test_ranges_that_vanish(self):
        self.check_references(3, 2, "A4:A5", "#REF")
        self.check_references(3, 2, "A4:A4+A5:A5", "#REF+#REF")
        self.check_references(1, 4, "A2:B5+A3:B4", "#REF+#REF")
        sheet = (3, 1, {(2, 0): parse("SUM(A1:A2)")})
        self.check_delete(sheet, 0, 2, (1, 1, {(0, 0): parse("SUM(#REF)")}))

    def test_rows_beyond_the_grid_count_as_later(self):
        self.check_references(1, 2, "A4+A12+B5#+A6:A12", "A2+A10+B3#+A4:A10", size=3)
        self.check_references(1, 2, "A2:A12", "A2:A10", size=3)
        self.check_references(2, 1, "A3:A4", "A3:A3", size=3)

    def test_lost_references_stay_lost(self):
        self.check_references(1, 1, "#REF+A1", "#REF+A1")

    def test_one_row_must_be_left(self):
        for rows in range(1, 13):
            for at in range(-2, 15):
                for count in range(1, 15):
                    sheet = (rows, 3, {(rows - 1, 2): 8})
                    if 0 <= at and at + count <= rows and count < rows:
                        contents = {} if at + count == rows else {(rows - 1 - count, 2): 8}
                        self.check_delete(sheet, at, count, (rows - count, 3, contents))
                    else:
                        for edit, tried in ((delete_rows, sheet), (delete_columns, exchanged(sheet))):
                            error = self.refused(TooLarge, edit, tried, at, count)
                            self.assertEqual(error.count, count)

    def test_too_large_keeps_the_very_count(self):
        for count in (10 ** 9, 10 ** 60 - 1):
            for at in (0, 1, 10 ** 60 - 1):
                for edit in (delete_rows, delete_columns):
                    self.assertIs(self.refused(TooLarge, edit, (2, 2, {}), at, count).count, count)
        self.assertEqual(self.refused(TooLarge, delete_rows, (2, 5, {}), 2, 1).count, 1)
        self.assertEqual(self.refused(TooLarge, delete_columns, (5, 2, {}), 2, 1).count, 1)
        self.assertEqual(self.refused(TooLarge, delete_rows, (1, 1, {}), 0, 1).count, 1)

    def test_all_references(self):
        for size in (5, 12):
            for at in range(0, size):
                for count in range(1, size - at + (at > 0)):
                    for first, last in INTERVALS:
                        for reference in (("range", first, 1, last, 3), ("cell", last, 3), ("spill", last, 0)):
                            place = at - 1 if at else count
                            sheet = (size, 1, {(place, 0): reference})
                            self.check_delete(sheet, at, count, slow_delete_rows(sheet, at, count))

    def test_random_sheets(self):
        source = random.Random(24)
        for _ in range(400):
            rows = source.randrange(2, 13)
            sheet = random_sheet(source, rows, source.randrange(1, 8), 4)
            count = source.randrange(1, rows)
            at = source.randrange(rows - count + 1)
            self.check_delete(sheet, at, count, slow_delete_rows(sheet, at, count))

    def test_what_was_inserted_can_be_deleted_again(self):
        source = random.Random(25)
        for _ in range(200):
            rows = source.randrange(1, 7)
            sheet = random_sheet(source, rows, 4, 3)
            at, count = source.randrange(rows + 1), source.randrange(1, 7)
            there = insert_rows(sheet, at, count)
            lost = any("#REF" in print_expression(content) for content in there[2].values()
                       if isinstance(content, tuple))
            if not lost:
                self.assertEqual(delete_rows(there, at, count), sheet)


class CopyCellsTest(EditTestCase):
    def check(self, sheet, area, target, expected):
        if isinstance(area, str):
            area, target = parse_area(area), parse_cell(target)
        self.assertEqual(self.unchanged(sheet, copy_cells, area, target), expected)

    def check_refused(self, sheet, area, target, cell):
        error = self.refused(OutOfGrid, copy_cells, sheet, parse_area(area), parse_cell(target))
        self.assertEqual(error.cell, cell)

    def test_the_example_of_the_document(self):
        sheet = copy_cells((2, 2, {(0, 0): 5, (0, 1): ("cell", 0, 0)}), (0, 1, 0, 1), (1, 1))
        self.assertEqual(sorted(sheet[2].items()),
                         [((0, 0), 5), ((0, 1), ("cell", 0, 0)), ((1, 1), ("cell", 1, 0))])

    def test_arguments_by_name(self):
        result = copy_cells(target=(1, 1), area=(0, 0, 0, 0), sheet=(2, 2, {(0, 0): 5}))
        self.assertEqual(result, (2, 2, {(0, 0): 5, (1, 1): 5}))

    def test_numbers_and_formulas(self):
        sheet = sheet_of(5, 5, A1=1, B1="A1", A2="SUM(A1:B1)+C3#", B2=-4)
        self.check(sheet, "A1:B2", "C3", sheet_of(
            5, 5, A1=1, B1="A1", A2="SUM(A1:B1)+C3#", B2=-4,
            C3=1, D3="C3", C4="SUM(C3:D3)+E5#", D4=-4))

    def test_empty_cells_make_their_copies_empty(self):
        sheet = sheet_of(3, 3, A1=1, C1=2, C2="A1", C3=4)
        self.check(sheet, "B1:B2", "C1", sheet_of(3, 3, A1=1, C3=4))
        self.check((2, 2, {}), "A1:A2", "B1", (2, 2, {}))

    def test_in_every_direction(self):
        sheet = sheet_of(3, 3, B2="B2+A1+C3")
        self.check(sheet, "B2:B2", "B3", sheet_of(3, 3, B2="B2+A1+C3", B3="B3+A2+C4"))
        self.check(sheet, "B2:B2", "C2", sheet_of(3, 3, B2="B2+A1+C3", C2="C2+B1+D3"))
        self.check(sheet, "B2:B2", "B1", sheet_of(3, 3, B2="B2+A1+C3", B1="B1+#REF+C2"))
        self.check(sheet, "B2:B2", "A2", sheet_of(3, 3, B2="B2+A1+C3", A2="A2+#REF+B3"))

    def test_references_beyond_the_largest_grid_are_lost(self):
        sheet = sheet_of(12, 12, A1="L11+A12+L11:L12+B2#")
        self.check(sheet, "A1:A1", "A2", sheet_of(
            12, 12, A1="L11+A12+L11:L12+B2#", A2="L12+#REF+#REF+B3#"))

    def test_an_area_that_overlaps_its_target(self):
        sheet = sheet_of(4, 4, A1=1, A2=2, A3=3, B1="A1")
        self.check(sheet, "A1:A3", "A2", sheet_of(4, 4, A1=1, A2=1, A3=2, A4=3, B1="A1"))
        self.check(sheet, "A2:A4", "A1", sheet_of(4, 4, A1=2, A2=3, B1="A1"))
        self.check(sheet, "A1:B2", "B2", sheet_of(4, 4, A1=1, A2=2, A3=3, B1="A1", B2=1, B3=2, C2="B2"))
        self.check(sheet, "A1:C3", "B1", sheet_of(4, 4, A1=1, A2=2, A3=3, B1=1, B2=2, B3=3, C1="B1"))

    def test_onto_itself(self):
        sheet = sheet_of(3, 3, A1=1, B1="A1+#REF+L12", B2=3)
        self.check(sheet, "A1:C3", "A1", sheet)
        self.check(sheet, "B1:B1", "B1", sheet)

    def test_the_whole_grid(self):
        sheet = (12, 12, {cell: ("cell",) + cell for cell in cells_of((0, 0, 11, 11))})
        self.check(sheet, "A1:L12", "A1", sheet)
        self.check_refused(sheet, "A1:L12", "A2", (12, 11))
        self.check_refused(sheet, "A1:L12", "B1", (11, 12))

    def test_areas_that_leave_the_grid(self):
        sheet = sheet_of(3, 4, A1=1)
        self.check_refused(sheet, "A1:A4", "A1", (3, 0))
        self.check_refused(sheet, "D3:E3", "A1", (2, 4))
        self.check_refused(sheet, "E4:F5", "A1", (4, 5))
        self.check_refused(sheet, "A1:L12", "L12", (11, 11))

    def test_targets_that_leave_the_grid(self):
        sheet = sheet_of(3, 4, A1=1)
        self.check_refused(sheet, "A1:A1", "A4", (3, 0))
        self.check_refused(sheet, "A1:A1", "E1", (0, 4))
        self.check_refused(sheet, "A1:B2", "C3", (3, 3))
        self.check_refused(sheet, "A1:B2", "D2", (2, 4))
        self.check_refused(sheet, "B2:D3", "C2", (2, 4))
        self.check_refused(sheet, "A1:D3", "L12", (13, 14))

    def test_the_area_is_named_first(self):
        sheet = sheet_of(3, 4, A1=1)
        self.check_refused(sheet, "A1:A4", "L12", (3, 0))
        self.check_refused(sheet, "D3:F6", "A1", (5, 5))

    def test_random_sheets(self):
        source = random.Random(25)
        for _ in range(400):
            rows, columns = source.randrange(1, 9), source.randrange(1, 9)
            sheet = random_sheet(source, rows, columns, 3)
            top, left = source.randrange(rows), source.randrange(columns)
            bottom, right = source.randrange(top, rows), source.randrange(left, columns)
            height, width = bottom - top, right - left
            target = (source.randrange(rows - height), source.randrange(columns - width))
            down, aside = target[0] - top, target[1] - left
            expected = dict(sheet[2])
            for cell in cells_of((top, left, bottom, right)):
                expected.pop((cell[0] + down, cell[1] + aside), None)
            for cell in cells_of((top, left, bottom, right)):
                if cell in sheet[2]:
                    content = sheet[2][cell]
                    if isinstance(content, tuple):
                        content = translate(content, down, aside)
                    expected[cell[0] + down, cell[1] + aside] = content
            self.check(sheet, (top, left, bottom, right), target, (rows, columns, expected))


if __name__ == "__main__":
    unittest.main()
