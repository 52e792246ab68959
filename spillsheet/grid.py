"""Cells and areas of the grid, and their names.

A cell is a tuple (row, column), an area is a tuple (top, left, bottom, right).
"""

from spillsheet.errors import BadAddress
from spillsheet.integers import is_integer_between

GRID_SIZE = 12
LETTERS = "ABCDEFGHIJKLMNOPQRSTUVWXYZ"

# Names are looked up whole, so that leading zeros and digits beyond 0 to 9 are no names.
ROW_NAMES = ("1", "2", "3", "4", "5", "6", "7", "8", "9", "10", "11", "12")
COLUMN_NAMES = ("A", "B", "C", "D", "E", "F", "G", "H", "I", "J", "K", "L")


def is_index(value):
    """Whether any value is the number of a row or column of the largest grid."""
    return is_integer_between(value, 0, GRID_SIZE - 1)


def is_cell(value):
    """Whether any value is a cell."""
    return isinstance(value, tuple) and len(value) == 2 and all([is_index(part) for part in value])


def is_area(value):
    """Whether any value is an area."""
    if not isinstance(value, tuple) or len(value) != 4 or not all([is_index(part) for part in value]):
        return False
    top, left, bottom, right = value
    return top <= bottom and left <= right


def cell_name(cell):
    """The name of a cell."""
    row, column = cell
    # Not looked up among the names of the grid: a cell may lie somewhat beyond it.
    return LETTERS[column] + str(row + 1)


def parse_cell(text):
    """The cell of a name; raises BadAddress for any value that is not the name of a cell."""
    cell = cell_or_none(text)
    if cell is None:
        raise BadAddress(text)
    return cell


def area_name(area):
    """The name of an area."""
    top, left, bottom, right = area
    return cell_name((top, left)) + ":" + cell_name((bottom, right))


def parse_area(text):
    """The area of a name; raises BadAddress for any value that is not the name of an area."""
    area = area_or_none(text)
    if area is None:
        raise BadAddress(text)
    return area


def area_at(cell, rows, columns):
    """The area with these numbers of rows and columns that starts at the cell."""
    top, left = cell
    return (top, left, top + rows - 1, left + columns - 1)


def contains(area, cell):
    """Whether the cell is in the area."""
    top, left, bottom, right = area
    row, column = cell
    return top <= row <= bottom and left <= column <= right


def overlaps(first, second):
    """Whether some cell is in both areas."""
    top, left, bottom, right = first
    other_top, other_left, other_bottom, other_right = second
    rows_meet = top <= other_bottom and other_top <= bottom
    columns_meet = left <= other_right and other_left <= right
    return rows_meet and columns_meet


def cells_of(area):
    """The list of the cells of the area in reading order."""
    top, left, bottom, right = area
    return [(row, column) for row in range(top, bottom + 1) for column in range(left, right + 1)]


def cell_or_none(text):
    """The cell that any value is the name of, or None."""
    if not isinstance(text, str) or text[:1] not in COLUMN_NAMES or text[1:] not in ROW_NAMES:
        return None
    return (ROW_NAMES.index(text[1:]), COLUMN_NAMES.index(text[:1]))


def area_or_none(text):
    """The area that any value is the name of, or None."""
    if not isinstance(text, str):
        return None
    first, _, second = text.partition(":")
    start = cell_or_none(first)
    end = cell_or_none(second)
    if start is None or end is None:
        return None
    area = start + end
    if not is_area(area):
        return None
    return area
