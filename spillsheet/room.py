"""Which formulas can spill into a cell, and what the answers tell of them so far."""

from spillsheet.grid import area_at, cells_of, contains
from spillsheet.sheets import formulas_of


def formulas_reaching(sheet, cell):
    """The list of the formulas that can reach a cell, in reading order."""
    _, _, contents = sheet
    return [formula for formula in formulas_of(sheet) if _can_reach(contents, formula, cell)]


def has_other_content(sheet, area, cell):
    """Whether a cell of the area other than this one has content."""
    _, _, contents = sheet
    return any([other in contents for other in cells_of(area) if other != cell])


def is_covering(answers, formula, cell):
    """Whether a formula that can reach a cell is answered to spill into it."""
    if answers.get(("status", formula)) != "spilled":
        return False
    area = area_at(formula, answers[("rows", formula)], answers[("columns", formula)])
    return contains(area, cell)


def is_out_of_the_way(answers, formula, cell):
    """Whether a formula that can reach a cell is answered not to spill into it."""
    if answers.get(("status", formula)) in ("single", "blocked"):
        return True
    row, column = formula
    return (
        _is_too_short(answers.get(("rows", formula)), cell[0] - row)
        or _is_too_short(answers.get(("columns", formula)), cell[1] - column)
    )


def _can_reach(contents, formula, cell):
    """Whether nothing stands between a formula and a cell that is not above it or to its left."""
    if formula[0] > cell[0] or formula[1] > cell[1]:
        return False
    return not any([between in contents for between in cells_of(formula + cell) if between != formula])


def _is_too_short(size, distance):
    """Whether so many rows or columns, or None if it is not known how many, end before that."""
    return size is not None and size <= distance
