"""Sheets: tuples (rows, columns, contents)."""


def is_inside(sheet, cell):
    """Whether a cell is inside the grid."""
    rows, columns, _ = sheet
    return 0 <= cell[0] < rows and 0 <= cell[1] < columns


def is_area_inside(sheet, area):
    """Whether the whole area is inside the grid."""
    top, left, bottom, right = area
    return is_inside(sheet, (top, left)) and is_inside(sheet, (bottom, right))


def is_formula(content):
    """Whether a content, or None for an empty cell, is a formula."""
    return isinstance(content, tuple)


def holds_formula(sheet, cell):
    """Whether a cell is inside the grid and holds a formula."""
    _, _, contents = sheet
    return is_inside(sheet, cell) and is_formula(contents.get(cell))
