"""Edits of sheets: inserting and deleting rows and columns, and copying areas."""

from spillsheet.errors import OutOfGrid, TooLarge
from spillsheet.grid import GRID_SIZE, cells_of
from spillsheet.references import (
    COLUMN_AXIS, ROW_AXIS, deleting, inserting, translate, with_spans_along,
)
from spillsheet.sheets import is_formula, is_grid_cell


def insert_rows(sheet, at, count):
    """The sheet with empty rows before a row; raises TooLarge if that is not possible."""
    return inserted(sheet, ROW_AXIS, at, count)


def insert_columns(sheet, at, count):
    """The sheet with empty columns before a column; raises TooLarge if that is not possible."""
    return inserted(sheet, COLUMN_AXIS, at, count)


def delete_rows(sheet, at, count):
    """The sheet without some of its rows; raises TooLarge if that is not possible."""
    return deleted(sheet, ROW_AXIS, at, count)


def delete_columns(sheet, at, count):
    """The sheet without some of its columns; raises TooLarge if that is not possible."""
    return deleted(sheet, COLUMN_AXIS, at, count)


def copy_cells(sheet, area, target):
    """The sheet with an area copied to a target cell; raises OutOfGrid if a part is outside."""
    top, left, bottom, right = area
    down = target[0] - top
    aside = target[1] - left
    for corner in ((bottom, right), (bottom + down, right + aside)):
        if not is_grid_cell(sheet, corner):
            raise OutOfGrid(corner)
    _, _, contents = sheet
    copies = {}
    for row, column in cells_of(area):
        content = contents.get((row, column))
        if is_formula(content):
            content = translate(content, down, aside)
        copies[(row + down, column + aside)] = content
    return with_contents(sheet, copies)


def with_contents(sheet, changes):
    """The sheet with other contents in some cells; None makes a cell empty."""
    rows, columns, contents = sheet
    changed = {cell: contents[cell] for cell in contents if cell not in changes}
    for cell, content in changes.items():
        if content is not None:
            changed[cell] = content
    return (rows, columns, changed)


def inserted(sheet, axis, at, count):
    """The sheet with empty rows or columns; raises TooLarge if that is not possible."""
    size = sheet[axis]
    if not 0 <= at <= size or size + count > GRID_SIZE:
        raise TooLarge(count)
    return _resized(sheet, axis, size + count, inserting(at, count))


def deleted(sheet, axis, at, count):
    """The sheet without some rows or columns; raises TooLarge if that is not possible."""
    size = sheet[axis]
    if not 0 <= at <= size - count or count >= size:
        raise TooLarge(count)
    return _resized(sheet, axis, size - count, deleting(at, count))


def _resized(sheet, axis, size, change):
    """The sheet with another size along an axis, and everything along it moved as change tells."""
    rows, columns, old_contents = sheet
    contents = {}
    for cell, content in old_contents.items():
        first, last = change(cell[axis], cell[axis])
        if first <= last:
            if is_formula(content):
                content = with_spans_along(content, axis, change)
            contents[_replaced(cell, axis, first)] = content
    return _replaced((rows, columns), axis, size) + (contents,)


def _replaced(pair, axis, number):
    """A pair of numbers with another one along an axis."""
    first, second = pair
    if axis == ROW_AXIS:
        return (number, second)
    return (first, number)
