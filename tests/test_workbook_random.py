"""Long random sequences of edits of a Workbook, against a slow one that keeps nothing."""

import random
import unittest

from spillsheet import edits
from spillsheet.dependencies import kept_questions
from spillsheet.errors import NothingToRedo, NothingToUndo, SheetError
from spillsheet.parser import parse
from spillsheet.printer import print_expression
from spillsheet.settle import display, settle
from spillsheet.workbook import Workbook
from tests.random_expressions import random_expression, random_spilling_sheet


class SlowWorkbook:
    """A workbook that works out everything from the list of its sheets."""

    def __init__(self, rows, columns):
        self.sheets = [(rows, columns, {})]
        self.at = 0
        self.before = None

    def sheet(self):
        return self.sheets[self.at]

    def set_cell(self, cell, text):
        rows, columns, contents = self.sheet()
        contents = dict(contents)
        contents.pop(cell, None)
        if text.startswith("="):
            contents[cell] = parse(text[1:])
        elif text:
            contents[cell] = int(text)
        self.change((rows, columns, contents))

    def edit(self, name, *arguments):
        function = {"copy": edits.copy_cells}.get(name) or getattr(edits, name)
        self.change(function(self.sheet(), *arguments))

    def change(self, sheet):
        self.before = self.sheet()
        self.sheets[self.at + 1:] = [sheet]
        self.at += 1

    def undo(self):
        if self.at == 0:
            raise NothingToUndo()
        self.before = self.sheet()
        self.at -= 1

    def redo(self):
        if self.at == len(self.sheets) - 1:
            raise NothingToRedo()
        self.before = self.sheet()
        self.at += 1

    def changes(self):
        if self.before is None:
            return []
        shown_before, shown = shown_in(self.before), shown_in(self.sheet())
        return [(cell, shown_before.get(cell, ""), shown.get(cell, ""))
                for cell in sorted(set(shown_before) | set(shown))
                if shown_before.get(cell, "") != shown.get(cell, "")]

    def kept(self):
        return [] if self.before is None else kept_questions(self.before, self.sheet())


def shown_in(sheet):
    """For every cell of a sheet what the display has for it."""
    return {(row, column): scalar for row, scalars in enumerate(display(sheet))
            for column, scalar in enumerate(scalars)}


class RandomWorkbookTest(unittest.TestCase):
    def random_text(self, source, rows, columns):
        kind = source.random()
        if kind < 0.2:
            return ""
        if kind < 0.4:
            return str(source.choice([0, 1, 2, 3, -1, 12, 10 ** 9]))
        if kind < 0.7:
            contents = random_spilling_sheet(source, rows, columns, 1)[2]
            formulas = [content for content in contents.values() if isinstance(content, tuple)]
            return "=" + print_expression(formulas[0])
        return "=" + print_expression(random_expression(source, 3, min(rows, columns)))[:200]

    def random_action(self, source, sheet):
        """The name of a method and arguments that do not always fit."""
        rows, columns, _ = sheet
        kind = source.random()
        if kind < 0.5:
            cell = (source.randrange(rows), source.randrange(columns))
            return "set_cell", (cell, self.random_text(source, rows, columns))
        if kind < 0.62:
            top, left = source.randrange(rows), source.randrange(columns)
            area = (top, left, min(11, top + source.randrange(3)), min(11, left + source.randrange(3)))
            return "copy", (area, (source.randrange(rows), source.randrange(columns)))
        if kind < 0.85:
            return source.choice(["undo", "undo", "redo"]), ()
        name = source.choice(["insert_rows", "insert_columns", "delete_rows", "delete_columns"])
        size = rows if name.endswith("rows") else columns
        return name, (source.randrange(size + 2), source.randrange(1, 4))

    def outcome(self, action, *arguments):
        """The class of the error that a call raises, and what it keeps, or None."""
        try:
            action(*arguments)
        except SheetError as error:
            return type(error), vars(error)
        return None

    def check_step(self, source, workbook, slow):
        name, arguments = self.random_action(source, slow.sheet())
        if name in ("set_cell", "undo", "redo"):
            expected = self.outcome(getattr(slow, name), *arguments)
        else:
            expected = self.outcome(slow.edit, name, *arguments)
        self.assertEqual(self.outcome(getattr(workbook, name), *arguments), expected, msg=(name, arguments))
        # What is asked decides which states are at hand at the next change.
        if source.random() < 0.6:
            self.assertEqual(workbook.state(), settle(slow.sheet()))
        if source.random() < 0.6:
            self.assertEqual(workbook.changes(), slow.changes())
        if source.random() < 0.6:
            self.assertEqual(workbook.kept(), slow.kept())
        self.assertEqual(workbook.sheet(), slow.sheet())
        return expected

    def test_long_sequences(self):
        source = random.Random(28)
        refused = 0
        for _ in range(12):
            rows, columns = source.randrange(2, 6), source.randrange(2, 6)
            workbook, slow = Workbook(rows, columns), SlowWorkbook(rows, columns)
            for _ in range(120):
                refused += self.check_step(source, workbook, slow) is not None
            self.assertEqual(workbook.changes(), slow.changes())
            self.assertEqual(workbook.state(), settle(slow.sheet()))
        self.assertGreater(refused, 50)

    def test_everything_undone_and_redone(self):
        source = random.Random(29)
        workbook, slow = Workbook(4, 4), SlowWorkbook(4, 4)
        for _ in range(150):
            self.check_step(source, workbook, slow)
        for name in ("undo", "redo", "undo"):
            for _ in range(len(slow.sheets) + 1):
                expected = self.outcome(getattr(slow, name))
                self.assertEqual(self.outcome(getattr(workbook, name)), expected)
                self.assertEqual(workbook.changes(), slow.changes())
                self.assertEqual(workbook.sheet(), slow.sheet())
        self.assertEqual(workbook, Workbook(4, 4))


if __name__ == "__main__":
    unittest.main()
