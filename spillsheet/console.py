"""A console that executes commands on a workbook."""

from spillsheet.certificates import waiting_chain
from spillsheet.commands import read_command
from spillsheet.files import save_text
from spillsheet.grid import cell_name
from spillsheet.workbook import OUTSIDE, UNDECIDED, Workbook

FIRST_SIZE = 8
BLANK = "blank"


# Commands that change the workbook.

def _set(workbook, cell, content):
    """Sets the content of a cell."""
    workbook.set_cell(cell, content)


def _clear(workbook, cell):
    """Makes a cell empty."""
    workbook.set_cell(cell, "")


def _insert_rows(workbook, at, count):
    """Inserts rows."""
    workbook.insert_rows(at, count)


def _delete_rows(workbook, at, count):
    """Deletes rows."""
    workbook.delete_rows(at, count)


def _insert_columns(workbook, at, count):
    """Inserts columns."""
    workbook.insert_columns(at, count)


def _delete_columns(workbook, at, count):
    """Deletes columns."""
    workbook.delete_columns(at, count)


def _copy(workbook, area, cell):
    """Copies an area to a cell."""
    workbook.copy(area, cell)


def _undo(workbook):
    """Takes the last change back."""
    workbook.undo()


def _redo(workbook):
    """Repeats what was undone."""
    workbook.redo()


# Commands that tell something of the workbook.

def _show(workbook):
    """The display, a line for each row."""
    rows, columns, _ = workbook.sheet()
    lines = []
    for row in range(rows):
        scalars = [workbook.shown((row, column)) for column in range(columns)]
        lines.append("\t".join([_word_of(scalar, "") for scalar in scalars]))
    return "\n".join(lines)


def _get(workbook, cell):
    """What a cell shows."""
    return _word_of(workbook.shown(cell), BLANK)


def _text(workbook, cell):
    """The text of the content of a cell."""
    return workbook.text_of(cell)


def _status(workbook, cell):
    """The status of a cell."""
    return workbook.status(cell)


def _why(workbook, cell):
    """What a cell waits for that shows nothing yet, a line for each question."""
    if workbook.shown(cell) != UNDECIDED:
        return "settled"
    chain = waiting_chain(workbook.sheet(), ("shown", cell))
    return "\n".join([_line_of(question) for question in chain])


def _changes(workbook):
    """The last changes, a line for each cell."""
    lines = [
        f"{cell_name(cell)} {_word_of_change(before)} {_word_of_change(after)}"
        for cell, before, after in workbook.changes()
    ]
    if len(lines) == 0:
        return "no changes"
    return "\n".join(lines)


def _save(workbook):
    """The text of the sheet."""
    return save_text(workbook.sheet())


def _word_of(scalar, blank):
    """The text of what a cell shows, where the text of a blank is given."""
    if scalar is None:
        return blank
    return str(scalar)


def _word_of_change(scalar):
    """The text of what a cell showed or shows, which may be outside the grid."""
    if scalar == OUTSIDE:
        return "none"
    return _word_of(scalar, BLANK)


def _line_of(question):
    """The text of a question."""
    kind, cell, *places = question
    return " ".join([kind, cell_name(cell)] + [str(place) for place in places])


CHANGES = {
    "set": _set,
    "clear": _clear,
    "rows insert": _insert_rows,
    "rows delete": _delete_rows,
    "columns insert": _insert_columns,
    "columns delete": _delete_columns,
    "copy": _copy,
    "undo": _undo,
    "redo": _redo,
}

REPORTS = {
    "show": _show,
    "get": _get,
    "text": _text,
    "status": _status,
    "why": _why,
    "changes": _changes,
    "save": _save,
}


class Console:
    """A workbook, and the commands that are executed on it."""

    def __init__(self):
        self._workbook = Workbook(FIRST_SIZE, FIRST_SIZE)

    def say(self, command):
        """Executes a command and returns what there is to tell.

        Raises BadCommand for any value that is not a command, and the errors of the workbook.
        """
        name, given = read_command(command)
        if name in REPORTS:
            report = REPORTS[name]
            return report(self._workbook, *given)
        if name in CHANGES:
            change = CHANGES[name]
            change(self._workbook, *given)
        else:
            # Only "new" is left.
            rows, columns = given
            self._workbook = Workbook(rows, columns)
        return "ok"
