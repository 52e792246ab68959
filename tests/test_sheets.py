"""Sheets in spillsheet.sheets."""

import copy
import unittest

from spillsheet.parser import parse
from spillsheet.sheets import formulas_of, is_sheet
from tests.samples import any_values, nested

LIMIT = 10 ** 9


class IsSheetTest(unittest.TestCase):
    def check(self, value, expected):
        before = copy.deepcopy(value)
        self.assertIs(is_sheet(value), expected, msg=repr(value)[:200])
        self.assertEqual(value, before)

    def check_contents(self, contents, expected):
        self.check((3, 4, contents), expected)

    def test_argument_by_name(self):
        self.assertIs(is_sheet(value=(1, 1, {})), True)

    def test_sizes(self):
        for rows in range(-1, 15):
            for columns in range(-1, 15):
                self.check((rows, columns, {}), 1 <= rows <= 12 and 1 <= columns <= 12)

    def test_sizes_of_other_kinds(self):
        for size in (True, False, None, "1", "", (1,), [1], {}, {1: 1}, 10 ** 60 - 1, -(10 ** 60)):
            self.check((size, 1, {}), False)
            self.check((1, size, {}), False)

    def test_parts_missing_or_doubled(self):
        for value in [(), (1,), (1, 1), (1, {}), ({},), (1, 1, 1), (1, 1, {}, {}), (1, 1, 1, {}),
                      [1, 1, {}], ((1, 1, {}),), ({}, 1, 1), (1, {}, 1), {1: 1, 2: {}}]:
            self.check(value, False)

    def test_contents_of_other_kinds(self):
        for contents in (None, 0, "", "{}", (), [], [((0, 0), 1)], (((0, 0), 1),), True):
            self.check((1, 1, contents), False)

    def test_contents_that_are_right(self):
        for content in (0, 1, -1, LIMIT, -LIMIT, ("number", 0), ("cell", 11, 11), ("badref",),
                        ("range", 0, 0, 11, 11), ("spill", 5, 5), parse("SUM(A1:B2)+C3#"),
                        parse("-" * 11 + "1")):
            self.check_contents({(0, 0): content}, True)
            self.check_contents({(2, 3): content, (0, 0): 5, (1, 1): ("number", 2)}, True)

    def test_contents_that_are_wrong(self):
        for content in (LIMIT + 1, -LIMIT - 1, 10 ** 60 - 1, True, False, None, "", "1", "#REF",
                        "=A1", "A1", [], {}, (), [1], (1,), ("number", -1), ("number", LIMIT + 1),
                        ("number", True), ["number", 1], ("cell", 12, 0), ("cell", 0, 0, 0),
                        ("range", 1, 0, 0, 0), ("call", "SUM", ()), ("call", "FOO", (("badref",),)),
                        nested(12, lambda inner: ("negate", inner), ("number", 1))):
            self.check_contents({(0, 0): content}, False)
            self.check_contents({(0, 0): 5, (2, 3): content, (1, 1): ("number", 2)}, False)
        self.check_contents({(0, 0): nested(11, lambda inner: ("negate", inner), ("number", 1))}, True)

    def test_keys_that_are_right(self):
        self.check_contents({}, True)
        self.check_contents({(row, column): row for row in range(3) for column in range(4)}, True)
        self.check((12, 12, {(11, 11): 1}), True)

    def test_keys_outside_the_grid(self):
        for cell in ((3, 0), (0, 4), (3, 4), (-1, 0), (0, -1), (12, 12), (11, 11), (10 ** 30, 0)):
            self.check_contents({cell: 1}, False)
            self.check_contents({(0, 0): 1, cell: ("number", 1)}, False)

    def test_keys_of_other_kinds(self):
        for key in (0, "A1", "", None, True, (), (0,), (0, 0, 0), (True, 0), (0, True), (False, 0),
                    ((0, 0),), ("0", "0"), (None, None), (0, (0,)), ((0, 0), (0, 0))):
            self.check_contents({key: 1}, False)

    def test_any_value(self):
        for value in any_values():
            self.check(value, False)
            self.check((value, 1, {}), type(value) is int and 1 <= value <= 12)
            self.check((1, value, {}), type(value) is int and 1 <= value <= 12)
            if type(value) is not dict:
                self.check((1, 1, value), False)
            if value not in [("number", 1)]:
                number = type(value) is int and -LIMIT <= value <= LIMIT
                self.check((1, 1, {(0, 0): value}), number)


class FormulasOfTest(unittest.TestCase):
    def test_formulas_in_reading_order(self):
        one = ("number", 1)
        contents = {(2, 0): one, (0, 2): one, (1, 1): 5, (1, 0): one, (0, 0): 7, (1, 11): one,
                    (1, 2): ("badref",), (11, 0): -3}
        sheet = (12, 12, contents)
        before = copy.deepcopy(sheet)
        expected = [(0, 2), (1, 0), (1, 2), (1, 11), (2, 0)]
        self.assertEqual(formulas_of(sheet), expected)
        self.assertEqual(sheet, before)
        backwards = {cell: contents[cell] for cell in reversed(list(contents))}
        self.assertEqual(formulas_of((12, 12, backwards)), expected)

    def test_sheets_without_formulas(self):
        self.assertEqual(formulas_of((1, 1, {})), [])
        self.assertEqual(formulas_of((2, 2, {(0, 0): 1, (1, 1): 0})), [])

    def test_the_list_is_new(self):
        sheet = (2, 2, {(0, 0): ("badref",)})
        first = formulas_of(sheet=sheet)
        first.append("changed")
        self.assertEqual(formulas_of(sheet), [(0, 0)])
        self.assertIs(type(first), list)


if __name__ == "__main__":
    unittest.main()
