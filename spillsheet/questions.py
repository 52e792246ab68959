"""Which values are questions of a sheet."""

from spillsheet.integers import is_integer_between
from spillsheet.sheets import holds_formula, is_grid_cell


def element_questions(answers, cell):
    """The questions for the elements of a formula, if its rows and columns have answers."""
    if ("rows", cell) not in answers or ("columns", cell) not in answers:
        return []
    rows = answers[("rows", cell)]
    columns = answers[("columns", cell)]
    return [("element", cell, i, j) for i in range(rows) for j in range(columns)]


def is_question(sheet, answers, value):
    """Whether any value is a question of the sheet under the answers."""
    if not isinstance(value, tuple) or len(value) < 2 or not is_grid_cell(sheet, value[1]):
        return False
    kind = value[0]
    cell = value[1]
    if kind == "shown":
        return len(value) == 2
    if not holds_formula(sheet, cell):
        return False
    if kind == "element":
        return _is_element_question(answers, value)
    return len(value) == 2 and kind in ("rows", "columns", "status")


def _is_element_question(answers, value):
    """Whether a tuple that begins as the question for an element is one."""
    if len(value) != 4:
        return False
    _, cell, i, j = value
    rows = answers.get(("rows", cell), 0)
    columns = answers.get(("columns", cell), 0)
    return is_integer_between(i, 0, rows - 1) and is_integer_between(j, 0, columns - 1)
