"""What a question depends on, and which answers are kept when a sheet is replaced by another.

Whether an answer is kept is worked out for subjects: tuples (kind, cell). The subject "content"
is what a cell holds, "shown" is the question of this kind, "result" stands for the questions
rows, columns and element of a formula, which all depend on the same, and "status" for the
question of this kind. As status depends on rows and columns, whatever depends on it depends on
all questions about the formula. Subjects of cells outside the grid may be named here: as these
cells are never edited, such subjects make no difference.
"""

from spillsheet.expressions import references_of
from spillsheet.grid import area_at, cells_of
from spillsheet.settle import settle
from spillsheet.sheets import formulas_of, grid_cells, holds_formula, is_formula

RESULT_KINDS = ("rows", "columns", "element")


def kept_questions(before, after):
    """The list of the questions whose answers are kept when one sheet replaces another."""
    return kept_in_state(before, settle(before), after)


def kept_in_state(before, state, after):
    """The same as kept_questions, where the settled state of the first sheet is known."""
    if before[:2] != after[:2]:
        return []
    spoiled = _spoiled_subjects(_dependencies(before, state), _edited_cells(before, after))
    return sorted([question for question in state if _subject_of(question) not in spoiled])


def _edited_cells(before, after):
    """The list of the cells whose contents differ."""
    _, _, old = before
    _, _, new = after
    return [cell for cell in grid_cells(before) if old.get(cell) != new.get(cell)]


def _subject_of(question):
    """The subject that a question belongs to."""
    kind = question[0]
    cell = question[1]
    if kind in RESULT_KINDS:
        return ("result", cell)
    return (kind, cell)


def _spoiled_subjects(dependencies, edited_cells):
    """The dict of the subjects that depend on the content of an edited cell."""
    dependents = {}
    for subject, needed_subjects in dependencies.items():
        for needed in needed_subjects:
            dependents.setdefault(needed, []).append(subject)
    due = [("content", cell) for cell in edited_cells]
    spoiled = {}
    while len(due) > 0:
        subject = due.pop()
        if subject not in spoiled:
            spoiled[subject] = True
            due.extend(dependents.get(subject, []))
    return spoiled


def _dependencies(sheet, state):
    """For every subject of a sheet the list of the subjects that it depends on directly."""
    dependencies = {}
    for cell in formulas_of(sheet):
        dependencies[("result", cell)] = _needed_for_result(sheet, cell)
        dependencies[("status", cell)] = _needed_for_status(sheet, state, cell)
    for cell in grid_cells(sheet):
        dependencies[("shown", cell)] = _needed_for_shown(sheet, cell)
    return dependencies


def _needed_for_result(sheet, formula):
    """What the rows, the columns and every element of a formula depend on."""
    _, _, contents = sheet
    needed = [("content", formula)]
    for reference in references_of(contents[formula]):
        kind = reference[0]
        if kind == "spill":
            needed.extend(_needed_for_spill(sheet, reference[1:]))
        elif kind != "badref":
            # Of a cell reference, the first cell is the last one, too.
            area = reference[1:3] + reference[-2:]
            needed.extend([("shown", cell) for cell in cells_of(area)])
    return needed


def _needed_for_spill(sheet, cell):
    """What a reference to the result of the formula in a cell depends on."""
    if holds_formula(sheet, cell):
        return [("content", cell), ("status", cell)]
    return [("content", cell)]


def _needed_for_status(sheet, state, formula):
    """What the status of a formula depends on."""
    needed = [("result", formula)]
    rows = state.get(("rows", formula))
    columns = state.get(("columns", formula))
    if rows is None or columns is None or (rows == 1 and columns == 1):
        return needed
    row, column = formula
    _, _, bottom, right = area_at(formula, rows, columns)
    for other in cells_of((0, 0, bottom, right)):
        needed.append(("content", other))
        if other[0] < row and other[1] > column and holds_formula(sheet, other):
            needed.append(("status", other))
    return needed


def _needed_for_shown(sheet, cell):
    """What the answer to what a cell shows depends on."""
    _, _, contents = sheet
    content = contents.get(cell)
    if is_formula(content):
        return [("content", cell), ("status", cell)]
    if content is not None:
        return [("content", cell)]
    needed = []
    for other in cells_of((0, 0) + cell):
        needed.append(("content", other))
        if holds_formula(sheet, other):
            needed.append(("status", other))
    return needed
