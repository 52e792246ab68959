"""Cells, areas and their names in spillsheet.grid."""

import copy
import itertools
import unittest

from spillsheet.errors import BadAddress
from spillsheet.grid import (
    area_at, area_name, cell_name, cells_of, contains, is_area, is_cell, overlaps, parse_area,
    parse_cell,
)
from tests.samples import any_values

LETTERS = "ABCDEFGHIJKL"
INTERVALS = [(low, high) for low in range(12) for high in range(low, 12)]
CELL_NAMES = {
    LETTERS[column] + str(row + 1): (row, column) for row in range(12) for column in range(12)
}
AREA_NAMES = {
    f"{LETTERS[left]}{top + 1}:{LETTERS[right]}{bottom + 1}": (top, left, bottom, right)
    for top, bottom in INTERVALS
    for left, right in INTERVALS
}
# Characters that a wrong name may have, beyond ASCII too: digits and letters that
# only look right, and white space of several kinds.
OTHER_CHARACTERS = (
    "ABCKLMNZabclm0123456789 \n\t\r:;.,+-_#$()[]\"'/~@"
    "\u0661\u0967\uff11\u00b2\u2460\uff21\u0410\u0391\u00c4\u00e9\u00a0\u2003\u200b"
)


def variations(name):
    """The texts that differ from the name by one character."""
    found = []
    for at in range(len(name) + 1):
        found += [name[:at] + extra + name[at:] for extra in OTHER_CHARACTERS]
        if at < len(name):
            found.append(name[:at] + name[at + 1:])
            found += [name[:at] + other + name[at + 1:] for other in OTHER_CHARACTERS]
            found.append(name[:at] + name[at] + name[at:])
    return found


def slow_cells(area):
    """The cells of an area, one by one, sorted as tuples."""
    top, left, bottom, right = area
    return sorted(
        (row, column)
        for row in range(40)
        for column in range(40)
        if top <= row and row <= bottom and left <= column and column <= right
    )


class NamesTest(unittest.TestCase):
    def check_refused(self, parse, value):
        before = copy.deepcopy(value)
        with self.assertRaises(BadAddress) as context:
            parse(value)
        self.assertIs(context.exception.text, value)
        self.assertEqual(value, before)

    def test_the_examples_of_the_document(self):
        self.assertEqual(cell_name((0, 0)), "A1")
        self.assertEqual(cell_name((11, 1)), "B12")
        self.assertEqual(area_name((0, 0, 2, 1)), "A1:B3")
        self.assertEqual(parse_area("A1:B3"), (0, 0, 2, 1))
        self.check_refused(parse_cell, "M1")

    def test_all_cells_there_and_back(self):
        self.assertEqual(len(CELL_NAMES), 144)
        for name, cell in CELL_NAMES.items():
            self.assertEqual(cell_name(cell), name)
            self.assertEqual(parse_cell(name), cell)

    def test_all_areas_there_and_back(self):
        self.assertEqual(len(AREA_NAMES), 78 * 78)
        for name, area in AREA_NAMES.items():
            self.assertEqual(area_name(area), name)
            self.assertEqual(parse_area(name), area)

    def test_one_cell_and_the_whole_grid_as_areas(self):
        self.assertEqual(area_name((4, 2, 4, 2)), "C5:C5")
        self.assertEqual(parse_area("C5:C5"), (4, 2, 4, 2))
        self.assertEqual(area_name((0, 0, 11, 11)), "A1:L12")
        self.assertEqual(parse_area("A1:L12"), (0, 0, 11, 11))

    def test_names_and_addresses_are_strings_and_tuples_of_integers(self):
        self.assertIs(type(cell_name((3, 4))), str)
        self.assertIs(type(area_name((3, 4, 5, 6))), str)
        for parsed in (parse_cell("E4"), parse_area("E4:G6")):
            self.assertIs(type(parsed), tuple)
            self.assertEqual([type(part) for part in parsed], [int] * len(parsed))

    def test_every_short_text_that_is_no_cell_name_is_refused(self):
        refused = 0
        for length in range(4):
            for characters in itertools.product("ABLMZal019 2:-+\n", repeat=length):
                text = "".join(characters)
                if text in CELL_NAMES:
                    self.assertEqual(parse_cell(text), CELL_NAMES[text])
                else:
                    self.check_refused(parse_cell, text)
                    refused += 1
                self.check_refused(parse_area, text)
        self.assertGreater(refused, 3000)

    def test_texts_near_a_cell_name_are_refused(self):
        for name in ("A1", "A10", "L12", "C7", "K9", "F11"):
            for text in variations(name):
                if text not in CELL_NAMES:
                    self.check_refused(parse_cell, text)

    def test_texts_near_an_area_name_are_refused(self):
        for name in ("A1:A1", "A1:L12", "B2:C11", "C10:K12", "L12:L12"):
            for text in variations(name):
                if text not in AREA_NAMES:
                    self.check_refused(parse_area, text)

    def test_cell_names_that_are_wrong(self):
        wrong = [
            "a1", "l12", "A01", "A001", "A012", "A0", "A00", "A13", "A20", "A99", "A100",
            "A123", "M1", "M12", "Z1", "AA1", "AB12", "A", "L", "1", "12", "1A", "A1A", "A1 ",
            " A1", "A 1", "A1\n", "\nA1", "A\n1", "A1\t", "A-1", "A+1", "A1.0", "A1_", "A1_1",
            "$A$1", "A1#", "R1C1", "A\uff11", "A\u0661", "A\u00b9", "A1\u0661", "\uff211",
            "\u04101", "\u03911", "@1", "`1", "A/", "A:", "A1A1", "A1,B2",
        ]
        for text in wrong:
            with self.subTest(text=text):
                self.check_refused(parse_cell, text)

    def test_area_names_that_are_wrong(self):
        wrong = [
            "A1:", ":A1", ":", "A1", "A1B3", "A1::B3", "A1:B3:", ":A1:B3", "A1:B3:C4",
            "A1:B", "A:B3", "A:B", "1:3", "A1:3", "1:B3", "A1-B3", "A1;B3", "A1..B3",
            "a1:B3", "A1:b3", "A01:B3", "A1:B03", "A0:B3", "A1:B0", "A1:B13", "A13:B13",
            "A1:M3", "M1:M3", "A1: B3", "A1 :B3", " A1:B3", "A1:B3 ", "A1:B3\n", "A1\n:B3",
            "A1:\nB3", "\nA1:B3", "A1:B3#", "A1#:B3", "AA1:BB3", "A1:B\uff13", "A1\uff1aB3",
            "A1:\uff223",
        ]
        for text in wrong:
            with self.subTest(text=text):
                self.check_refused(parse_area, text)

    def test_areas_turned_round_are_refused(self):
        names = list(CELL_NAMES)
        refused = 0
        for first in names:
            for second in names:
                text = first + ":" + second
                if text not in AREA_NAMES:
                    self.check_refused(parse_area, text)
                    refused += 1
        self.assertEqual(refused, 144 * 144 - 78 * 78)

    def test_the_name_of_the_other_kind_is_refused(self):
        for name in CELL_NAMES:
            self.check_refused(parse_area, name)
        for name in AREA_NAMES:
            self.check_refused(parse_cell, name)

    def test_values_that_are_not_names_are_refused(self):
        for value in any_values():
            with self.subTest(value=value):
                self.check_refused(parse_cell, value)
                self.check_refused(parse_area, value)

    def test_bytes_and_the_addresses_themselves_are_refused(self):
        for value in (b"A1", b"A1:B3", (0, 0), (0, 0, 2, 1), 1.0):
            self.check_refused(parse_cell, value)
            self.check_refused(parse_area, value)

    def test_arguments_by_name(self):
        self.assertEqual(cell_name(cell=(2, 3)), "D3")
        self.assertEqual(parse_cell(text="D3"), (2, 3))
        self.assertEqual(area_name(area=(2, 3, 4, 5)), "D3:F5")
        self.assertEqual(parse_area(text="D3:F5"), (2, 3, 4, 5))
        with self.assertRaises(BadAddress):
            parse_cell(text="D0")
        with self.assertRaises(BadAddress):
            parse_area(text="D3")


class AddressesTest(unittest.TestCase):
    def test_cells_are_tuples_of_two_indexes(self):
        for cell in CELL_NAMES.values():
            self.assertIs(is_cell(cell), True)
            self.assertIs(is_cell(list(cell)), False)
        for value in ((0, 12), (12, 0), (-1, 0), (0, -1), (True, 0), (0, None), (0,), (0, 0, 0)):
            self.assertIs(is_cell(value), False)

    def test_areas_are_tuples_of_four_indexes_in_order(self):
        for area in AREA_NAMES.values():
            self.assertIs(is_area(area), True)
            self.assertIs(is_area(list(area)), False)
        for value in ((0, 0, 12, 0), (-1, 0, 0, 0), (1, 0, 0, 0), (0, 1, 0, 0), (0, 0, 0, True),
                      (0, 0, 0), (0, 0, 0, 0, 0), ("0", 0, 0, 0)):
            self.assertIs(is_area(value), False)

    def test_any_other_value_is_neither(self):
        for value in any_values():
            self.assertIs(is_cell(value), value == (0, 0))
            self.assertIs(is_area(value), value == (0, 0, 0, 0))


class AreasTest(unittest.TestCase):
    def test_area_at_starts_at_the_cell_and_has_the_sizes(self):
        for row, column in itertools.product((0, 1, 5, 11), repeat=2):
            for rows, columns in itertools.product((1, 2, 7, 12), repeat=2):
                area = area_at((row, column), rows, columns)
                self.assertIs(type(area), tuple)
                self.assertEqual(area[:2], (row, column))
                self.assertEqual(len(range(area[0], area[2] + 1)), rows)
                self.assertEqual(len(range(area[1], area[3] + 1)), columns)

    def test_area_at_may_go_beyond_the_grid(self):
        self.assertEqual(area_at((11, 11), 12, 12), (11, 11, 22, 22))
        self.assertEqual(area_at((10, 0), 3, 1), (10, 0, 12, 0))
        self.assertEqual(area_at((0, 10), 1, 3), (0, 10, 0, 12))
        self.assertEqual(area_at((2, 3), 1, 1), (2, 3, 2, 3))
        self.assertEqual(area_at(cell=(2, 3), rows=4, columns=5), (2, 3, 5, 7))

    def test_contains_agrees_with_the_cells(self):
        areas = [
            (0, 0, 0, 0), (0, 0, 11, 11), (3, 4, 3, 9), (3, 4, 9, 4), (2, 5, 6, 8),
            (11, 11, 11, 11), (11, 0, 11, 11), (0, 11, 11, 11), (10, 9, 14, 20),
        ]
        for area in areas:
            inside = slow_cells(area)
            for cell in itertools.product(range(24), repeat=2):
                expected = cell in inside
                self.assertIs(contains(area, cell), expected)
                self.assertIs(contains(area=area, cell=cell), expected)

    def test_overlaps_agrees_with_the_cells(self):
        intervals = [(low, high) for low in range(4) for high in range(low, 4)]
        areas = [
            (top, left, bottom, right)
            for top, bottom in intervals
            for left, right in intervals
        ]
        cells = {area: set(slow_cells(area)) for area in areas}
        for first in areas:
            for second in areas:
                expected = not cells[first].isdisjoint(cells[second])
                self.assertIs(overlaps(first, second), expected)

    def test_overlaps_nested_touching_apart_and_equal(self):
        middle = (3, 3, 6, 6)
        cases = {
            middle: True,
            (4, 4, 5, 5): True,
            (0, 0, 11, 11): True,
            (6, 6, 9, 9): True,
            (0, 0, 3, 3): True,
            (6, 0, 9, 3): True,
            (0, 6, 3, 9): True,
            (0, 4, 11, 5): True,
            (4, 0, 5, 11): True,
            (7, 3, 9, 6): False,
            (0, 3, 2, 6): False,
            (3, 7, 6, 9): False,
            (3, 0, 6, 2): False,
            (7, 7, 9, 9): False,
            (0, 0, 2, 2): False,
            (7, 0, 9, 2): False,
            (0, 7, 2, 9): False,
            (6, 6, 20, 20): True,
            (7, 0, 20, 20): False,
        }
        for other, expected in cases.items():
            with self.subTest(other=other):
                self.assertIs(overlaps(middle, other), expected)
                self.assertIs(overlaps(other, middle), expected)
                self.assertIs(overlaps(first=middle, second=other), expected)
        self.assertIs(overlaps((0, 0, 2, 1), (2, 1, 5, 5)), True)

    def test_cells_of_in_reading_order(self):
        self.assertEqual(cells_of((0, 0, 0, 0)), [(0, 0)])
        self.assertEqual(cells_of((1, 2, 2, 3)), [(1, 2), (1, 3), (2, 2), (2, 3)])
        self.assertEqual(cells_of(area=(4, 1, 4, 3)), [(4, 1), (4, 2), (4, 3)])
        self.assertEqual(cells_of((4, 1, 6, 1)), [(4, 1), (5, 1), (6, 1)])
        self.assertEqual(cells_of((0, 0, 11, 11)), sorted(CELL_NAMES.values()))
        self.assertEqual(cells_of((10, 11, 12, 13)), slow_cells((10, 11, 12, 13)))
        for area in AREA_NAMES.values():
            cells = cells_of(area)
            self.assertEqual(cells, sorted(set(cells)))
            height, width = area[2] - area[0] + 1, area[3] - area[1] + 1
            self.assertEqual(len(cells), height * width)
            self.assertEqual((cells[0], cells[-1]), (area[:2], area[2:]))

    def test_cells_of_returns_a_new_list_each_time(self):
        area = (1, 2, 2, 3)
        first = cells_of(area)
        self.assertIs(type(first), list)
        first.clear()
        second = cells_of(area)
        self.assertEqual(second, [(1, 2), (1, 3), (2, 2), (2, 3)])
        self.assertIsNot(second, cells_of(area))


if __name__ == "__main__":
    unittest.main()
