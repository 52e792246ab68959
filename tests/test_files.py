"""The text of a sheet in spillsheet.files."""

import copy
import itertools
import random
import unittest

from spillsheet.errors import BadFile
from spillsheet.files import load_text, save_text
from spillsheet.grid import cell_name, cells_of
from spillsheet.parser import parse
from spillsheet.printer import print_expression
from spillsheet.sheets import is_sheet
from tests.random_expressions import random_expression, random_sheet
from tests.samples import any_values
from tests.test_rules import sheet_of
from tests.test_settle import full_sheet
from tests.test_workbook import long_sum

LIMIT = 10 ** 9


class SaveTest(unittest.TestCase):
    def check(self, sheet, expected):
        before = copy.deepcopy(sheet)
        self.assertEqual(save_text(sheet), expected)
        self.assertEqual(sheet, before)

    def test_the_example_of_the_document(self):
        self.check((2, 2, {(0, 0): 5, (1, 1): parse("A1*2")}), "sheet 2 2\nA1 5\nB2 =A1*2")

    def test_argument_by_name(self):
        self.assertEqual(save_text(sheet=(1, 1, {})), "sheet 1 1")

    def test_empty_sheets(self):
        for rows in range(1, 13):
            for columns in range(1, 13):
                self.check((rows, columns, {}), f"sheet {rows} {columns}")

    def test_reading_order(self):
        cells = [(0, 0), (0, 9), (1, 0), (9, 1), (10, 0), (11, 11)]
        lines = ["A1 0", "J1 1", "A2 2", "B10 3", "A11 4", "L12 5"]
        for order in itertools.islice(itertools.permutations(range(6)), 0, None, 37):
            contents = {cells[at]: at for at in order}
            self.check((12, 12, contents), "\n".join(["sheet 12 12"] + lines))

    def test_contents(self):
        self.check(sheet_of(2, 2, A1=0, B1=-1, A2=LIMIT, B2=-LIMIT),
                   f"sheet 2 2\nA1 0\nB1 -1\nA2 {LIMIT}\nB2 -{LIMIT}")
        self.check(sheet_of(1, 3, A1="(1 + 2) * B1", B1="#REF", C1="- 5"),
                   "sheet 1 3\nA1 =(1+2)*B1\nB1 =#REF\nC1 =-5")

    def test_full_sheets(self):
        sheet = full_sheet(lambda row, column: 12 * row - column)
        lines = ["sheet 12 12"] + [f"{cell_name(cell)} {12 * cell[0] - cell[1]}"
                                   for cell in cells_of((0, 0, 11, 11))]
        self.check(sheet, "\n".join(lines))

    def test_long_formulas_are_written_but_not_read_back(self):
        text = long_sum("A1:B12", 28)
        self.assertGreater(len(text), 200)
        expression = parse(long_sum("A1:B9", 28))
        longer = replaced(expression, ("range", 0, 0, 8, 1), ("range", 0, 0, 11, 1))
        self.check((1, 1, {(0, 0): longer}), "sheet 1 1\nA1 =" + text)
        with self.assertRaises(BadFile) as context:
            load_text("sheet 1 1\nA1 =" + text)
        self.assertEqual(context.exception.line, 1)


def replaced(part, old, new):
    """An expression with another one in place of a subexpression."""
    if part == old:
        return new
    if isinstance(part, tuple):
        return tuple(replaced(inner, old, new) for inner in part)
    return part


class LoadTest(unittest.TestCase):
    def check(self, text, expected):
        result = load_text(text)
        self.assertEqual(result, expected)
        self.assertIs(type(result), tuple)
        self.assertTrue(is_sheet(result))
        result[2]["changed"] = True
        self.assertEqual(load_text(text), expected)

    def check_refused(self, value, line):
        before = copy.deepcopy(value)
        with self.assertRaises(BadFile) as context:
            load_text(value)
        self.assertEqual(context.exception.line, line, msg=repr(value))
        self.assertEqual(value, before)

    def test_the_example_of_the_document(self):
        self.check_refused("sheet 2 2\nB2 1\nA1 5", 2)

    def test_argument_by_name(self):
        self.assertEqual(load_text(text="sheet 1 2\nB1 5"), (1, 2, {(0, 1): 5}))

    def test_all_sizes(self):
        for rows in range(0, 15):
            for columns in range(0, 15):
                text = f"sheet {rows} {columns}"
                if 1 <= rows <= 12 and 1 <= columns <= 12:
                    self.check(text, (rows, columns, {}))
                else:
                    self.check_refused(text, 0)

    def test_faults_of_the_first_line(self):
        for text in (
            "", " ", "\n", "sheet", "sheet 2", "sheet 2 ", "sheet  2 2", "sheet 2  2", " sheet 2 2",
            "sheet 2 2 ", "sheet 2 2 2", "Sheet 2 2", "SHEET 2 2", "sheets 2 2", "sheet 02 2", "sheet 2 02",
            "sheet 2 -2", "sheet +2 2", "sheet 2,2", "sheet 2\t2", "sheet 2 2\r", "sheet two 2", "sheet A1 5",
            "sheet 2.0 2", "sheet 100 1", "sheet 1 1000000", "sheet 012 1", "sheet 1 " + "1" * 5000,
            "\nsheet 2 2", "A1 5", "sheet \u0662 2", "sheet 2 \u00b2", "2 2", "sheet 1_1 2", "sheet2 2",
        ):
            self.check_refused(text, 0)
            self.check_refused(text + "\nA1 5", 0)
            self.check_refused(text + "\nx", 0)

    def test_contents(self):
        self.check(f"sheet 3 2\nA1 0\nB1 -1\nA2 {LIMIT}\nB2 -{LIMIT}\nB3 7",
                   sheet_of(3, 2, A1=0, B1=-1, A2=LIMIT, B2=-LIMIT, B3=7))
        self.check("sheet 1 3\nA1 =(1+2)*B1\nB1 =#REF\nC1 =-5", sheet_of(1, 3, A1="(1+2)*B1", B1="#REF", C1="-5"))

    def test_formulas_may_have_spaces_and_parentheses(self):
        self.check("sheet 1 1\nA1 =  ( 1 + ((2)) )  ", sheet_of(1, 1, A1="1+2"))
        self.check("sheet 1 1\nA1 =" + " " * 199 + "5", sheet_of(1, 1, A1="5"))

    def test_faults_of_contents(self):
        for text in (
            "", " ", " 5", "5 ", "05", "-0", "00", "+5", "--5", "5 5", "x", "A1", "1.5", "5\t", "5\r",
            str(LIMIT + 1), str(-LIMIT - 1), "1" * 20, "1" * 5000, "=", "= ", "=1+", "==1", " =1", "=x", "=01",
            "=A13", "=M1", "=B1:A1", "=SUM(1,2)", "=1 2", "=(1", "=1)", "=" + "-" * 12 + "1",
            "=" + " " * 200 + "5", "=" + "(" * 21 + "1" + ")" * 21, "\u0665",
        ):
            self.check_refused(f"sheet 4 4\nA1 {text}", 1)
            self.check_refused(f"sheet 4 4\nA1 3\nB1 {text}\nC1 2", 2)

    def test_faults_of_cells(self):
        for name in ("", "A", "1", "a1", "A0", "A01", "A13", "M1", "A1:A1", "A1#", " A1", "A1 ", "AA1", "1A",
                     "$A$1", "\tA1", "A1\t", "sheet"):
            self.check_refused(f"sheet 12 12\n{name} 5", 1)
            self.check_refused(f"sheet 12 12\nA1 1\nB1 1\n{name} 5\nx", 3)

    def test_lines_without_a_space(self):
        for line in ("", "A1", "5", "A15", "A1=5", "A1\t5"):
            self.check_refused(f"sheet 12 12\n{line}", 1)
            self.check_refused(f"sheet 12 12\nA1 5\n{line}", 2)

    def test_empty_lines_and_a_newline_at_the_end(self):
        self.check_refused("sheet 2 2\n", 1)
        self.check_refused("sheet 2 2\nA1 5\n", 2)
        self.check_refused("sheet 2 2\nA1 5\n\n", 2)
        self.check_refused("sheet 2 2\n\nA1 5", 1)
        self.check_refused("sheet 2 2\r\nA1 5", 0)
        self.check_refused("sheet 2 2\nA1 5\r\nB1 6", 1)

    def test_cells_outside_the_grid(self):
        self.check_refused("sheet 2 3\nA3 5", 1)
        self.check_refused("sheet 2 3\nD1 5", 1)
        self.check_refused("sheet 2 3\nC2 5\nL12 5", 2)
        self.check("sheet 2 3\nC2 5", sheet_of(2, 3, C2=5))
        self.check("sheet 12 12\nL12 5", sheet_of(12, 12, L12=5))

    def test_cells_out_of_order_and_twice(self):
        self.check_refused("sheet 3 3\nA1 5\nA1 5", 2)
        self.check_refused("sheet 3 3\nB1 5\nA1 6", 2)
        self.check_refused("sheet 3 3\nA2 5\nC1 6", 2)
        self.check_refused("sheet 3 3\nA1 1\nB1 2\nB1 3\nA1 4", 3)
        self.check_refused("sheet 12 12\nA10 1\nA2 2", 2)
        self.check("sheet 12 12\nC1 1\nA2 2\nA10 3\nA11 4", sheet_of(12, 12, C1=1, A2=2, A10=3, A11=4))

    def test_the_first_line_that_is_wrong(self):
        self.check_refused("sheet 2 2\nB2 1\nA1 x", 2)
        self.check_refused("sheet 2 2\nB2 x\nA1 5", 1)
        self.check_refused("sheet 0 2\nB2 x\nA1 5", 0)
        self.check_refused("sheet 2 2\nA1 1\nC1 2\nA1 =", 2)

    def test_values_that_are_not_strings(self):
        for value in any_values() + [b"sheet 1 1", ["sheet 1 1"], ("sheet 1 1",), 1.5]:
            if not isinstance(value, str):
                self.check_refused(value, 0)

    def test_strings_that_are_no_sheets(self):
        for value in any_values():
            if isinstance(value, str):
                self.check_refused(value, 0)


class ThereAndBackTest(unittest.TestCase):
    def test_random_sheets(self):
        source = random.Random(29)
        for _ in range(300):
            sheet = random_sheet(source, source.randrange(1, 13), source.randrange(1, 13), 4)
            if any(len(print_expression(content)) > 200 for content in sheet[2].values()
                   if isinstance(content, tuple)):
                continue
            text = save_text(sheet)
            self.assertEqual(load_text(text), sheet)
            self.assertEqual(save_text(load_text(text)), text)

    def test_a_sheet_full_of_formulas(self):
        source = random.Random(30)
        contents = {}
        for cell in cells_of((0, 0, 11, 11)):
            while cell not in contents:
                expression = random_expression(source, 4)
                if len(print_expression(expression)) <= 200:
                    contents[cell] = expression
        sheet = (12, 12, contents)
        self.assertEqual(load_text(save_text(sheet)), sheet)

    def test_texts_with_one_character_changed(self):
        """Whatever is read is written the same, except for spaces and parentheses of formulas."""
        text = "sheet 3 3\nA1 5\nC1 -12\nB2 =A1+SUM(A1:B3)\nC3 =C1#*2"
        read = 0
        for at in range(len(text)):
            for character in " \n0123ABC=-#x~":
                for changed in (text[:at] + character + text[at + 1:], text[:at] + character + text[at:],
                                text[:at] + text[at + 1:]):
                    try:
                        sheet = load_text(changed)
                    except BadFile as error:
                        self.assertIn(error.line, range(changed.count("\n") + 1))
                        continue
                    read += 1
                    self.assertTrue(is_sheet(sheet))
                    self.assertEqual(load_text(save_text(sheet)), sheet)
                    self.assertEqual(save_text(sheet).replace(" ", ""), changed.replace(" ", ""))
        self.assertGreater(read, 100)


if __name__ == "__main__":
    unittest.main()
