"""Points 26 and 27 of the document once more, word by word, question by question."""

from spillsheet.expressions import references_of
from spillsheet.settle import settle
from tests.reference import Reference, reference_questions


class ReferenceDependencies:
    """What every question of a sheet depends on: questions, and ("content", cell)."""

    def __init__(self, sheet):
        self.rows_of_grid, self.columns_of_grid, self.contents = sheet
        self.state = settle(sheet)
        self.questions = set(reference_questions(sheet, self.state))
        self.formulas = Reference(sheet, {}).formulas()
        self.found = {}

    def inside(self, cell):
        return 0 <= cell[0] < self.rows_of_grid and 0 <= cell[1] < self.columns_of_grid

    def cells(self, bottom, right):
        """The cells of the grid not below this row and not to the right of this column."""
        return [(row, column) for row in range(self.rows_of_grid) for column in range(self.columns_of_grid)
                if row <= bottom and column <= right]

    def formulas_in(self, cells):
        return [cell for cell in cells if cell in self.formulas]

    def result_questions(self, formula):
        """All questions rows, columns and element of a formula."""
        return [question for question in self.questions
                if question[0] in ("rows", "columns", "element") and question[1] == formula]

    def of(self, question):
        if question not in self.found:
            kind, cell = question[:2]
            if kind == "status":
                needed = self.of_status(cell)
            elif kind == "shown":
                needed = self.of_shown(cell)
            else:
                needed = self.of_result(cell)
            self.found[question] = [
                item for item in needed
                if (self.inside(item[1]) if item[0] == "content" else item in self.questions)]
        return self.found[question]

    def of_result(self, formula):
        needed = [("content", formula)]
        for reference in references_of(self.contents[formula]):
            if reference[0] == "cell":
                needed.append(("shown", reference[1:]))
            elif reference[0] == "range":
                _, top, left, bottom, right = reference
                needed += [("shown", (row, column)) for row in range(top, bottom + 1)
                           for column in range(left, right + 1)]
            elif reference[0] == "spill":
                cell = reference[1:]
                needed.append(("content", cell))
                if cell in self.formulas:
                    needed += self.result_questions(cell) + [("status", cell)]
        return needed

    def of_status(self, formula):
        needed = [("rows", formula), ("columns", formula)]
        if not all(question in self.state for question in needed):
            return needed
        rows, columns = (self.state[question] for question in needed)
        if (rows, columns) == (1, 1):
            return needed
        cells = self.cells(formula[0] + rows - 1, formula[1] + columns - 1)
        needed += [("content", cell) for cell in cells]
        for other in self.formulas_in(cells):
            if other[0] < formula[0] and other[1] > formula[1]:
                needed += [("rows", other), ("status", other)]
        return needed

    def of_shown(self, cell):
        needed = [("content", cell)]
        if cell in self.formulas:
            needed += [("status", cell), ("element", cell, 0, 0)]
        elif cell not in self.contents:
            cells = self.cells(*cell)
            needed += [("content", other) for other in cells]
            for other in self.formulas_in(cells):
                needed += self.result_questions(other) + [("status", other)]
                needed += [("rows", other), ("columns", other)]
        return needed

    def depends_on(self, question, edited):
        """Whether the question depends, directly or not, on the content of an edited cell."""
        due, seen = [question], set()
        while due:
            item = due.pop()
            if item in seen:
                continue
            seen.add(item)
            if item[0] == "content":
                if item[1] in edited:
                    return True
            else:
                due += self.of(item)
        return False


def reference_kept(before, after):
    """What kept_questions should return."""
    if before[:2] != after[:2]:
        return []
    cells = set(before[2]) | set(after[2])
    edited = {cell for cell in cells if before[2].get(cell) != after[2].get(cell)}
    dependencies = ReferenceDependencies(before)
    return sorted(question for question in dependencies.state
                  if not dependencies.depends_on(question, edited))
