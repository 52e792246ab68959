"""The class Console in spillsheet.console."""

import copy
import random
import unittest

from spillsheet.certificates import waiting_chain
from spillsheet.console import Console
from spillsheet.errors import (
    BadCommand, BadContent, BadFormula, NothingToRedo, NothingToUndo, OutOfGrid, SheetError, TooLarge,
)
from spillsheet.files import load_text, save_text
from spillsheet.grid import area_name, cell_name, cells_of
from spillsheet.printer import print_expression
from spillsheet.workbook import Workbook
from tests.random_expressions import random_spilling_sheet
from tests.samples import any_values

LIMIT = 10 ** 9
REPORTS = ["show", "changes", "save"]


def console_of(*commands):
    """A console to which these commands were said."""
    console = Console()
    for command in commands:
        console.say(command)
    return console


class ConsoleTestCase(unittest.TestCase):
    def check(self, console, command, expected):
        answer = console.say(command)
        self.assertEqual(answer, expected, msg=command)
        self.assertIs(type(answer), str)

    def check_done(self, console, *commands):
        for command in commands:
            self.check(console, command, "ok")

    def refused(self, console, error_class, command):
        """The error that a command raises, which must change nothing."""
        before = [console.say(report) for report in REPORTS]
        given = copy.deepcopy(command)
        with self.assertRaises(error_class) as context:
            console.say(command)
        self.assertIs(type(context.exception), error_class, msg=repr(command))
        self.assertEqual([console.say(report) for report in REPORTS], before)
        self.assertEqual(command, given)
        return context.exception

    def check_bad_command(self, *commands):
        console = console_of("set A1 5", "set B2 =A1+1")
        for command in commands:
            self.assertIs(self.refused(console, BadCommand, command).command, command)
        self.check(console, "save", "sheet 8 8\nA1 5\nB2 =A1+1")


class WordsTest(ConsoleTestCase):
    def test_the_example_of_the_document(self):
        self.check_bad_command("get M1")

    def test_arguments_by_name(self):
        self.assertEqual(Console().say(command="show"), "\n".join(["\t" * 7] * 8))

    def test_unknown_words(self):
        self.check_bad_command(
            "", " ", "  ", "\n", "x", "help", "load", "load x", "quit", "sets A1 5", "se A1 5", "A1", "A1 5",
            "=A1", "rows", "columns", "rows add 1 1", "rows 1 1", "row insert 1 1", "cells insert 1 1",
            "insert rows 1 1", "insert 1 1", "columns clear", "undo!", "showA1", "#", "5")

    def test_letters_in_the_wrong_case(self):
        self.check_bad_command(
            "Undo", "REDO", "Show", "SHOW", "get a1", "Get A1", "set a1 5", "SET A1 5", "Clear A1", "clear a1",
            "Rows insert 1 1", "rows Insert 1 1", "rows INSERT 1 1", "Columns delete 1 1", "New 2 2",
            "copy a1 B2", "copy A1 b2", "copy a1:b2 C3", "Copy A1 B2", "why a1", "Why A1", "Save", "Changes",
            "TEXT A1", "text a1", "status a1", "Status A1")

    def test_words_too_many(self):
        self.check_bad_command(
            "undo 1", "redo 1", "show A1", "changes 1", "save x", "new 2 2 2", "clear A1 B1", "get A1 B1",
            "text A1 A1", "status A1 A1", "why A1 A1", "rows insert 1 1 1", "rows delete 1 1 1",
            "columns insert 1 1 1", "columns delete 1 1 1", "copy A1 B1 C1", "undo undo")

    def test_words_too_few(self):
        self.check_bad_command(
            "new", "new 2", "set", "set A1", "clear", "get", "text", "status", "why", "rows insert",
            "rows insert 1", "rows delete", "rows delete 1", "columns insert", "columns insert 1",
            "columns delete", "columns delete 1", "copy", "copy A1", "copy A1:B2")

    def test_empty_words(self):
        for command in ("undo", "redo", "show", "changes", "save", "new 2 2", "clear A1", "get A1", "text A1",
                        "status A1", "why A1", "rows insert 1 1", "rows delete 1 1", "columns insert 1 1",
                        "columns delete 1 1", "copy A1 B1", "copy A1:B2 C3"):
            self.check_bad_command(command + " ", " " + command, command.replace(" ", "  ") + " ")
            for at, character in enumerate(command):
                if character == " ":
                    self.check_bad_command(command[:at] + " " + command[at:])
        self.check_bad_command(" set A1 5", "set  A1 5", "set A1 ", "set  5", "set ", "set  ")

    def test_other_white_space_is_no_space(self):
        self.check_bad_command("undo\n", "\nundo", "get\tA1", "get A1\n", "get\nA1", "new 2\t2", "rows\ninsert 1 1",
                               "set\nA1 5", "set A1\n5")

    def test_words_that_are_no_cells(self):
        for word in ("A", "1", "A0", "A13", "M1", "A01", "AA1", "A1:A1", "A1:B2", "A1#", "$A$1", "1A", "a1", "-A1",
                     "A-1", "A1.", "\u0391" + "1"):
            self.check_bad_command(f"get {word}", f"text {word}", f"status {word}", f"why {word}", f"clear {word}",
                                   f"set {word} 5", f"copy A1 {word}", f"copy A1:B2 {word}")

    def test_words_that_are_no_areas(self):
        for word in ("A1:", ":A1", "A1:M1", "A1:A13", "B1:A1", "A2:A1", "B2:A3", "a1:b2", "A1:B2:C3", "A1-B2",
                     "A1#", "A", "M1", "A1:B", "A01:B2", "A1:A0"):
            self.check_bad_command(f"copy {word} A1")

    def test_words_that_are_no_numbers(self):
        for word in ("0", "00", "01", "007", "-1", "+1", "1.0", "1e1", "one", "A1", "1,", "x", "1" * 61, "0" * 60,
                     "1" * 5000, "\u0661", "\u00b9", "1_0", "0x1", "#"):
            for axis in ("rows", "columns"):
                for verb in ("insert", "delete"):
                    self.check_bad_command(f"{axis} {verb} {word} 1", f"{axis} {verb} 1 {word}")

    def test_sizes(self):
        for word in ("0", "13", "01", "012", "-1", "+1", "1.0", "x", "100", "1" * 60, "1" * 5000, "\u0661", "A1"):
            self.check_bad_command(f"new {word} 1", f"new 1 {word}")

    def test_values_that_are_not_strings(self):
        for value in any_values() + [b"undo", ["undo"], ("get", "A1"), 1.5]:
            self.check_bad_command(value)

    def test_command_words_as_contents(self):
        console = Console()
        self.assertEqual(self.refused(console, BadContent, "set A1 undo").text, "undo")
        self.assertEqual(self.refused(console, BadContent, "set A1 A1").text, "A1")


class CommandsTest(ConsoleTestCase):
    def test_the_examples_of_the_document(self):
        console = Console()
        self.check_done(console, "set A1 =SEQ(3)", "set A2 7")
        self.check(console, "changes", "A1 1 #SPILL\nA2 2 7\nA3 3 blank")
        console = Console()
        self.check_done(console, "set A1 =B1", "set B1 =A1")
        self.check(console, "why A1", "shown A1\nelement A1 0 0\nshown B1\nelement B1 0 0\nshown A1")

    def test_it_starts_with_eight_rows_and_columns(self):
        console = Console()
        self.check(console, "save", "sheet 8 8")
        self.check(console, "changes", "no changes")
        self.check(console, "show", "\n".join(["\t" * 7] * 8))
        self.refused(console, NothingToUndo, "undo")
        self.refused(console, NothingToRedo, "redo")

    def test_new(self):
        console = console_of("set A1 5", "set A1 6", "undo")
        self.check(console, "new 2 3", "ok")
        self.check(console, "save", "sheet 2 3")
        self.check(console, "show", "\t\t\n\t\t")
        self.check(console, "changes", "no changes")
        self.refused(console, NothingToUndo, "undo")
        self.refused(console, NothingToRedo, "redo")
        for rows in range(1, 13):
            self.check_done(console, f"new {rows} {13 - rows}")
            self.check(console, "save", f"sheet {rows} {13 - rows}")

    def test_set_and_clear(self):
        console = console_of("new 2 2")
        self.check_done(console, "set A1 5", "set B1 =A1 + 1", "set A2 -12", "set B2 =(1)")
        self.check(console, "save", "sheet 2 2\nA1 5\nB1 =A1+1\nA2 -12\nB2 =1")
        self.check_done(console, "clear A1", "clear B2", "clear B2")
        self.check(console, "save", "sheet 2 2\nB1 =A1+1\nA2 -12")
        self.check(console, "changes", "no changes")

    def test_contents_with_spaces(self):
        console = console_of("new 2 2")
        self.check_done(console, "set A1 =1 +  2", "set B1 =  SUM( A1 )", "set A2 =5  ")
        self.check(console, "save", "sheet 2 2\nA1 =1+2\nB1 =SUM(A1)\nA2 =5")
        for content in (" 5", "5 ", " ", "  ", "5 6", " =1", "5  ", "\n", " \n5", "x y  z", "- 5"):
            self.assertEqual(self.refused(console, BadContent, "set A1 " + content).text, content)

    def test_wrong_contents(self):
        console = console_of("new 2 2", "set A1 5")
        for content in ("x", "05", "-0", str(LIMIT + 1), "+5", "blank", "5.0"):
            self.assertEqual(self.refused(console, BadContent, f"set A1 {content}").text, content)
        for content, position in (("=1+", 3), ("=", 1), ("= ", 2), ("=1 2", 3), ("=B2#+A13", 5), ("==", 1),
                                  ("=" + " " * 201, 201), ("=" + "-" * 12 + "1", 1), ("=1\n", 2)):
            self.assertEqual(self.refused(console, BadFormula, f"set A1 {content}").position, position)

    def test_cells_outside_the_grid(self):
        console = console_of("new 2 3", "set A1 5")
        for name, cell in (("A3", (2, 0)), ("D1", (0, 3)), ("L12", (11, 11))):
            for command in ("set {} 5", "set {} x", "set {} =", "clear {}", "get {}", "text {}", "status {}", "why {}"):
                error = self.refused(console, OutOfGrid, command.format(name))
                self.assertEqual(error.cell, cell, msg=command)

    def test_rows_and_columns(self):
        console = console_of("new 2 2", "set A1 5", "set B2 =A1")
        self.check_done(console, "rows insert 1 1")
        self.check(console, "save", "sheet 3 2\nA2 5\nB3 =A2")
        self.check_done(console, "columns insert 3 2")
        self.check(console, "save", "sheet 3 4\nA2 5\nB3 =A2")
        self.check_done(console, "columns insert 2 1")
        self.check(console, "save", "sheet 3 5\nA2 5\nC3 =A2")
        self.check_done(console, "rows delete 1 1")
        self.check(console, "save", "sheet 2 5\nA1 5\nC2 =A1")
        self.check_done(console, "columns delete 2 1")
        self.check(console, "save", "sheet 2 4\nA1 5\nB2 =A1")
        self.check_done(console, "columns delete 1 1")
        self.check(console, "save", "sheet 2 3\nA2 =#REF")
        self.check_done(console, "rows insert 3 10")
        self.check(console, "save", "sheet 12 3\nA2 =#REF")
        self.check_done(console, "rows delete 2 11")
        self.check(console, "save", "sheet 1 3")

    def test_rows_and_columns_that_cannot_be(self):
        console = console_of("new 3 4", "set A1 5")
        for command, count in (
            ("rows insert 1 10", 10), ("rows insert 5 1", 1), ("rows delete 1 3", 3), ("rows delete 4 1", 1),
            ("rows delete 3 2", 2), ("columns insert 1 9", 9), ("columns insert 6 1", 1),
            ("columns delete 1 4", 4), ("columns delete 5 1", 1), ("columns delete 1 " + "9" * 60, 10 ** 60 - 1),
            ("rows insert 1 1" + "0" * 59, 10 ** 59), ("rows insert " + "9" * 60 + " 1", 1),
            ("rows delete " + "9" * 60 + " 2", 2),
        ):
            self.assertEqual(self.refused(console, TooLarge, command).count, count, msg=command)
        self.check_done(console, "rows insert 4 9", "columns insert 5 8")

    def test_copy(self):
        console = console_of("new 3 3", "set A1 5", "set B1 =A1")
        self.check_done(console, "copy A1:B1 B2")
        self.check(console, "save", "sheet 3 3\nA1 5\nB1 =A1\nB2 5\nC2 =B2")
        self.check_done(console, "copy B1 B3", "copy C3 B2", "copy A1:A1 A3")
        self.check(console, "save", "sheet 3 3\nA1 5\nB1 =A1\nC2 =B2\nA3 5\nB3 =A3")
        for command, cell in (("copy A1:A4 A1", (3, 0)), ("copy A1:B2 C3", (3, 3)), ("copy D1 A1", (0, 3)),
                              ("copy A1 D1", (0, 3)), ("copy D1:L12 D1", (11, 11))):
            self.assertEqual(self.refused(console, OutOfGrid, command).cell, cell)

    def test_undo_and_redo(self):
        console = console_of("new 2 2", "set A1 5", "set A1 6")
        self.check_done(console, "undo")
        self.check(console, "get A1", "5")
        self.check(console, "changes", "A1 6 5")
        self.check_done(console, "redo")
        self.check(console, "get A1", "6")
        self.check_done(console, "undo", "undo")
        self.check(console, "changes", "A1 5 blank")
        self.refused(console, NothingToUndo, "undo")
        self.check_done(console, "redo", "set B1 1")
        self.refused(console, NothingToRedo, "redo")

    def test_show(self):
        console = console_of("new 3 3", "set A1 =SEQ(2,2)", "set C3 =A1/0", "set C1 =C2", "set C2 =C1")
        self.check(console, "show", "1\t2\t?\n3\t4\t?\n\t\t#DIV")
        console = console_of("new 1 1", "set A1 -5")
        self.check(console, "show", "-5")
        self.check(console_of("new 1 1"), "show", "")
        self.check(console_of("new 3 1"), "show", "\n\n")

    def test_get(self):
        console = console_of("new 2 3", "set A1 =SEQ(1,2)", "set C1 =C1", "set A2 0", "set B2 =1/0", "set C2 =B1")
        for name, expected in (("A1", "1"), ("B1", "2"), ("C1", "?"), ("A2", "0"), ("B2", "#DIV"), ("C2", "2")):
            self.check(console, f"get {name}", expected)
        self.check(Console(), "get A1", "blank")

    def test_text(self):
        console = console_of("new 2 2", "set A1 = ( 1 + 2 )", "set B1 -7")
        self.check(console, "text A1", "=1+2")
        self.check(console, "text B1", "-7")
        self.check(console, "text B2", "")

    def test_status(self):
        console = console_of("new 3 3", "set A1 =SEQ(2)", "set B1 5", "set C1 =B1", "set A3 =SEQ(2)", "set B3 =B3#")
        for name, expected in (("A1", "spilled"), ("A2", "empty"), ("B1", "number"), ("C1", "single"),
                               ("A3", "blocked"), ("B3", "?")):
            self.check(console, f"status {name}", expected)

    def test_why(self):
        console = console_of("new 3 3", "set B1 =SEQ(1+C2)", "set A2 =SEQ(1,3)")
        self.check(console, "why C2", "shown C2\nstatus A2\nrows B1\nshown C2")
        self.check(console, "why A1", "settled")
        self.check(console, "why C1", "settled")
        self.check(console, "why B1", "shown B1\nstatus B1\nrows B1\nshown C2\nstatus A2\nrows B1")
        console = console_of("new 2 1", "set A1 =STACK(1,A2)")
        self.check(console, "why A2", "shown A2\nelement A1 1 0\nshown A2")
        self.check(console, "why A1", "settled")

    def test_changes(self):
        console = console_of("new 2 2", "set A1 =B1", "set B1 =A1")
        self.check(console, "changes", "A1 blank ?\nB1 blank ?")
        self.check_done(console, "rows insert 3 1")
        self.check(console, "changes", "A3 none blank\nB3 none blank")
        self.check_done(console, "columns delete 2 1")
        self.check(console, "changes", "A1 ? #REF\nB1 ? none\nB2 blank none\nB3 blank none")
        self.check_done(console, "undo")
        self.check(console, "changes", "A1 #REF ?\nB1 none ?\nB2 none blank\nB3 none blank")
        self.check_done(console, "copy A1:B3 A1")
        self.check(console, "changes", "no changes")

    def test_save_undo_and_what_was_saved_across_each_other(self):
        console = console_of("new 3 3", "set A1 5", "set B2 =A1:B1")
        first = console.say("save")
        self.check_done(console, "rows insert 1 2", "columns delete 1 1")
        second = console.say("save")
        self.assertNotEqual(first, second)
        self.check_done(console, "undo", "undo")
        self.check(console, "save", first)
        self.check_done(console, "redo", "redo")
        self.check(console, "save", second)
        for text in (first, second):
            sheet = load_text(text)
            copied = console_of(f"new {sheet[0]} {sheet[1]}", *[
                "set " + line for line in text.split("\n")[1:]])
            self.check(copied, "save", text)
            self.assertEqual(save_text(sheet), text)

    def test_two_consoles_share_nothing(self):
        first, second = Console(), Console()
        self.check_done(first, "set A1 5")
        self.check(second, "save", "sheet 8 8")
        self.refused(second, NothingToUndo, "undo")


class RandomConsoleTest(ConsoleTestCase):
    """Random commands against a workbook to which the same is done."""

    def random_command(self, source, rows, columns):
        """A command, and what it does to a workbook."""
        cell = (source.randrange(rows), source.randrange(columns))
        name = cell_name(cell)
        kind = source.random()
        if kind < 0.4:
            content = random_spilling_sheet(source, rows, columns, 1)[2]
            texts = ["=" + print_expression(part) for part in content.values() if isinstance(part, tuple)]
            text = source.choice(texts + ["5", "-1", "0", "x"])
            return f"set {name} {text}", lambda workbook: workbook.set_cell(cell, text)
        if kind < 0.5:
            return f"clear {name}", lambda workbook: workbook.set_cell(cell, "")
        if kind < 0.65:
            verb, axis = source.choice(["insert", "delete"]), source.choice(["rows", "columns"])
            at, count = source.randrange(1, 8), source.randrange(1, 3)
            return (f"{axis} {verb} {at} {count}",
                    lambda workbook: getattr(workbook, f"{verb}_{axis}")(at - 1, count))
        if kind < 0.75:
            area = cell + (min(11, cell[0] + 1), min(11, cell[1] + source.randrange(2)))
            other = (source.randrange(rows), source.randrange(columns))
            return f"copy {area_name(area)} {cell_name(other)}", lambda workbook: workbook.copy(area, other)
        word = source.choice(["undo", "undo", "redo"])
        return word, lambda workbook: getattr(workbook, word)()

    def check_reports(self, console, workbook):
        sheet = workbook.sheet()
        cells = cells_of((0, 0, sheet[0] - 1, sheet[1] - 1))
        shown = {cell: workbook.shown(cell) for cell in cells}
        self.check(console, "save", save_text(sheet))
        self.check(console, "show", "\n".join(
            "\t".join("" if shown[row, column] is None else str(shown[row, column])
                      for column in range(sheet[1])) for row in range(sheet[0])))
        words = {None: "blank", "": "none"}
        changes = [f"{cell_name(cell)} {words.get(before, before)} {words.get(after, after)}"
                   for cell, before, after in workbook.changes()]
        self.check(console, "changes", "\n".join(changes) if changes else "no changes")
        for cell in cells:
            name = cell_name(cell)
            self.check(console, f"get {name}", "blank" if shown[cell] is None else str(shown[cell]))
            self.check(console, f"text {name}", workbook.text_of(cell))
            self.check(console, f"status {name}", workbook.status(cell))
            if shown[cell] == "?":
                chain = waiting_chain(sheet, ("shown", cell))
                self.check(console, f"why {name}", "\n".join(
                    " ".join([question[0], cell_name(question[1])] + [str(place) for place in question[2:]])
                    for question in chain))
            else:
                self.check(console, f"why {name}", "settled")

    def test_random_commands(self):
        source = random.Random(30)
        refused = 0
        for rows, columns in ((3, 3), (2, 5), (4, 4)):
            console, workbook = console_of(f"new {rows} {columns}"), Workbook(rows, columns)
            for step in range(120):
                size = workbook.sheet()[:2]
                command, action = self.random_command(source, *size)
                try:
                    action(workbook)
                except SheetError as expected:
                    refused += 1
                    error = self.refused(console, type(expected), command)
                    self.assertEqual(vars(error), vars(expected))
                else:
                    self.check(console, command, "ok")
                if step % 4 == 0:
                    self.check_reports(console, workbook)
        self.assertGreater(refused, 20)


if __name__ == "__main__":
    unittest.main()
