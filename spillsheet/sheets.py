"""Sheets: tuples (rows, columns, contents) of a grid's size and what its cells hold."""

from spillsheet.expressions import is_expression
from spillsheet.grid import GRID_SIZE
from spillsheet.integers import is_integer_between, written_integer
from spillsheet.scalars import is_number


def is_sheet(value):
    """Whether any value is a sheet."""
    if not isinstance(value, tuple) or len(value) != 3:
        return False
    rows, columns, contents = value
    if not is_integer_between(rows, 1, GRID_SIZE) or not is_integer_between(columns, 1, GRID_SIZE):
        return False
    if not isinstance(contents, dict):
        return False
    return all([is_grid_cell(value, cell) and _is_content(contents[cell]) for cell in contents])


def formulas_of(sheet):
    """The list of the cells that hold formulas, in reading order."""
    _, _, contents = sheet
    return sorted([cell for cell in contents if is_formula(contents[cell])])


def is_grid_cell(sheet, value):
    """Whether any value is a cell of the grid."""
    if not isinstance(value, tuple) or len(value) != 2:
        return False
    rows, columns, _ = sheet
    return is_integer_between(value[0], 0, rows - 1) and is_integer_between(value[1], 0, columns - 1)


def is_area_inside(sheet, area):
    """Whether the whole area is inside the grid."""
    top, left, bottom, right = area
    return is_grid_cell(sheet, (top, left)) and is_grid_cell(sheet, (bottom, right))


def grid_cells(sheet):
    """The list of the cells of the grid in reading order."""
    rows, columns, _ = sheet
    return [(row, column) for row in range(rows) for column in range(columns)]


def is_formula(content):
    """Whether a content, or None for an empty cell, is a formula."""
    return isinstance(content, tuple)


def holds_formula(sheet, cell):
    """Whether a cell is inside the grid and holds a formula."""
    _, _, contents = sheet
    return is_grid_cell(sheet, cell) and is_formula(contents.get(cell))


def written_size(word):
    """The number of rows or columns of a grid that a word writes, or None."""
    size = written_integer(word, len(str(GRID_SIZE)))
    if is_integer_between(size, 1, GRID_SIZE):
        return size
    return None


def _is_content(value):
    """Whether any value can be held by a cell that is not empty."""
    return is_number(value) or is_expression(value)
