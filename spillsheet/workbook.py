"""A sheet that is edited step by step, and its settled state."""

from spillsheet.contents import content_of_text, text_of_content
from spillsheet.dependencies import kept_in_state
from spillsheet.edits import copy_cells, deleted, inserted, with_contents
from spillsheet.errors import NothingToRedo, NothingToUndo, OutOfGrid
from spillsheet.grid import cells_of
from spillsheet.references import COLUMN_AXIS, ROW_AXIS
from spillsheet.settle import settle
from spillsheet.sheets import is_formula, is_grid_cell

UNDECIDED = "?"
OUTSIDE = ""


class Workbook:
    """A sheet, its settled state, and the changes that led to it.

    Sheets are replaced and never changed, so that the earlier ones can be returned to.
    """

    def __init__(self, rows, columns):
        self._sheet = (rows, columns, {})
        # The sheet before the last change, undo or redo, if there was one.
        self._sheet_before = None
        # The settled states of these two sheets, once they are asked for.
        self._answers = None
        self._answers_before = None
        self._undoable = []
        self._redoable = []

    def __eq__(self, other):
        return isinstance(other, Workbook) and self._sheet == other._sheet

    def __len__(self):
        return len(self._sheet[2])

    def set_cell(self, cell, text):
        """Sets the content of a cell from its text."""
        self._check_cell(cell)
        self._change_to(with_contents(self._sheet, {cell: content_of_text(text)}))

    def insert_rows(self, at, count=1):
        """Inserts empty rows before a row."""
        self._change_to(inserted(self._sheet, ROW_AXIS, at, count))

    def insert_columns(self, at, count=1):
        """Inserts empty columns before a column."""
        self._change_to(inserted(self._sheet, COLUMN_AXIS, at, count))

    def delete_rows(self, at, count=1):
        """Deletes rows from a row on."""
        self._change_to(deleted(self._sheet, ROW_AXIS, at, count))

    def delete_columns(self, at, count=1):
        """Deletes columns from a column on."""
        self._change_to(deleted(self._sheet, COLUMN_AXIS, at, count))

    def copy(self, area, target):
        """Copies the cells of an area to a target cell and those to the right of and below it."""
        self._change_to(copy_cells(self._sheet, area, target))

    def undo(self):
        """Returns to the sheet before the last change that has not been undone."""
        if len(self._undoable) == 0:
            raise NothingToUndo()
        self._redoable.append(self._sheet)
        self._turn_to(self._undoable.pop())

    def redo(self):
        """Repeats the change that was undone last."""
        if len(self._redoable) == 0:
            raise NothingToRedo()
        self._undoable.append(self._sheet)
        self._turn_to(self._redoable.pop())

    def sheet(self):
        """The sheet."""
        return with_contents(self._sheet, {})

    def state(self):
        """The settled state of the sheet."""
        answers = self._settled()
        return {question: answers[question] for question in answers}

    def text_of(self, cell):
        """The text of the content of a cell."""
        self._check_cell(cell)
        return text_of_content(self._sheet[2].get(cell))

    def shown(self, cell):
        """The scalar that a cell shows, or "?" if it is undecided."""
        self._check_cell(cell)
        return self._settled().get(("shown", cell), UNDECIDED)

    def status(self, cell):
        """Whether a cell is empty or holds a number, or else the status of its formula."""
        self._check_cell(cell)
        content = self._sheet[2].get(cell)
        if content is None:
            return "empty"
        if not is_formula(content):
            return "number"
        return self._settled().get(("status", cell), UNDECIDED)

    def changes(self):
        """The list of (cell, before, after) of the last change, undo or redo."""
        if self._sheet_before is None:
            return []
        answers_before = self._settled_before()
        answers = self._settled()
        bottom = max(self._sheet_before[0], self._sheet[0]) - 1
        right = max(self._sheet_before[1], self._sheet[1]) - 1
        found = []
        for cell in cells_of((0, 0, bottom, right)):
            before = _displayed(self._sheet_before, answers_before, cell)
            after = _displayed(self._sheet, answers, cell)
            if before != after:
                found.append((cell, before, after))
        return found

    def kept(self):
        """The list of the questions whose answers the last change, undo or redo has kept."""
        if self._sheet_before is None:
            return []
        return kept_in_state(self._sheet_before, self._settled_before(), self._sheet)

    def _check_cell(self, cell):
        """Raises OutOfGrid unless the cell is inside the grid."""
        if not is_grid_cell(self._sheet, cell):
            raise OutOfGrid(cell)

    def _change_to(self, sheet):
        """Makes a change that can be undone."""
        self._undoable.append(self._sheet)
        self._redoable = []
        self._turn_to(sheet)

    def _turn_to(self, sheet):
        """Replaces the sheet by another one."""
        self._sheet_before = self._sheet
        self._answers_before = self._answers
        self._sheet = sheet
        self._answers = None

    def _settled(self):
        """The settled state of the sheet, worked out only once."""
        if self._answers is None:
            self._answers = settle(self._sheet, known=self._known())
        return self._answers

    def _known(self):
        """The answers that were kept, as far as the state before the change was worked out."""
        before = self._answers_before
        if before is None:
            return {}
        return {question: before[question] for question in self.kept()}

    def _settled_before(self):
        """The settled state of the sheet before the last change, worked out only once."""
        if self._answers_before is None:
            self._answers_before = settle(self._sheet_before)
        return self._answers_before


def _displayed(sheet, answers, cell):
    """What the display of a sheet has for a cell, which may be outside of its grid."""
    if not is_grid_cell(sheet, cell):
        return OUTSIDE
    return answers.get(("shown", cell), UNDECIDED)
