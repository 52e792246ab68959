"""Moving references in spillsheet.references."""

import copy
import random
import unittest

from spillsheet.expressions import is_expression, references_of
from spillsheet.parser import parse
from spillsheet.printer import print_expression
from spillsheet.references import translate
from tests.random_expressions import random_expression
from tests.samples import nested

BADREF = ("badref",)
INTERVALS = [(low, high) for low in range(12) for high in range(low, 12)]
DISTANCES = range(-13, 14)


def moved(reference, down, right):
    """What point 22 says, word by word."""
    kind, *places = reference
    if kind == "badref":
        return BADREF
    places[0::2] = [row + down for row in places[0::2]]
    places[1::2] = [column + right for column in places[1::2]]
    if any(place < 0 or place > 11 for place in places):
        return BADREF
    return (kind, *places)


def without_references(expression):
    """The expression with the same word in place of every reference."""
    if not isinstance(expression, tuple):
        return expression
    if expression and expression[0] in ("cell", "range", "spill", "badref"):
        return "reference"
    return tuple(without_references(part) for part in expression)


class TranslateTest(unittest.TestCase):
    def check(self, expression, down, right, expected):
        before = copy.deepcopy(expression)
        result = translate(expression, down, right)
        self.assertEqual(result, expected, msg=(expression, down, right))
        self.assertTrue(is_expression(result))
        self.assertIsNot(result, expression)
        self.assertEqual(expression, before)

    def check_text(self, text, down, right, expected):
        self.check(parse(text), down, right, parse(expected))

    def test_the_examples_of_the_document(self):
        self.check(
            ("binary", "+", ("cell", 0, 0), ("range", 0, 0, 1, 1)), 1, 2,
            ("binary", "+", ("cell", 1, 2), ("range", 1, 2, 2, 3)))
        self.check(("range", 0, 0, 1, 1), 11, 0, BADREF)

    def test_arguments_by_name(self):
        result = translate(right=2, down=1, expression=("cell", 0, 0))
        self.assertEqual(result, ("cell", 1, 2))

    def test_cells_and_spills_in_every_direction(self):
        for kind in ("cell", "spill"):
            for place in range(12):
                for distance in DISTANCES:
                    found = place + distance
                    inside = found in range(12)
                    self.check((kind, place, 5), distance, 0, (kind, found, 5) if inside else BADREF)
                    self.check((kind, 5, place), 0, distance, (kind, 5, found) if inside else BADREF)
                    self.check((kind, place, 5), distance, distance, moved((kind, place, 5), distance, distance))

    def test_ranges_in_every_direction(self):
        for first, last in INTERVALS:
            for distance in DISTANCES:
                low, high = first + distance, last + distance
                inside = low >= 0 and high <= 11
                self.check(("range", first, 3, last, 4), distance, 0,
                           ("range", low, 3, high, 4) if inside else BADREF)
                self.check(("range", 3, first, 4, last), 0, distance,
                           ("range", 3, low, 4, high) if inside else BADREF)

    def test_down_belongs_to_rows_and_right_to_columns(self):
        self.check_text("A1+B2#+C3:D4", 2, 0, "A3+B4#+C5:D6")
        self.check_text("A1+B2#+C3:D4", 0, 2, "C1+D2#+E3:F4")
        self.check_text("C3+D4#+E5:F6", -2, -1, "B1+C2#+D3:E4")

    def test_one_coordinate_beyond_the_grid_is_enough(self):
        self.check_text("L12", 1, 0, "#REF")
        self.check_text("L12", 0, 1, "#REF")
        self.check_text("A1", -1, 0, "#REF")
        self.check_text("A1", 0, -1, "#REF")
        self.check_text("A12#", 1, -1, "#REF")
        self.check_text("A1:L1", 0, 1, "#REF")
        self.check_text("A1:A12", 1, 0, "#REF")
        self.check_text("A1:A12", -1, 5, "#REF")
        self.check_text("B2:C3", 9, 9, "K11:L12")
        self.check_text("B2:C3", 10, 9, "#REF")
        self.check_text("B2:C3", -1, -1, "A1:B2")
        self.check_text("B2:C3", -1, -2, "#REF")

    def test_every_reference_moves_by_itself(self):
        self.check_text("A1+L12+#REF+B2#", 1, 0, "A2+#REF+#REF+B3#")
        self.check_text("IF(A1,SUM(A1:B2),-L1)", 0, 1, "IF(B1,SUM(B1:C2),-#REF)")
        self.check_text("SEQ(A1)", 1, 1, "SEQ(B2)")
        self.check_text("SEQ(A1,2)", 1, 1, "SEQ(B2,2)")
        self.check_text("--(A1<=B1)*(A2-(A3-A4))", 1, 0, "--(A2<=B2)*(A3-(A4-A5))")

    def test_without_references(self):
        for text in ("0", "1000000000", "-5", "SEQ(3,4)", "1-(2-3)", "ROWS(7)<2"):
            self.check_text(text, 5, 5, text)
            self.check_text(text, -100, 100, text)
        self.check(BADREF, 0, 0, BADREF)
        self.check(BADREF, 3, -3, BADREF)

    def test_not_moved_at_all(self):
        for text in ("A1", "L12#", "A1:L12", "SUM(A1)+(B2-C3)", "#REF"):
            self.check_text(text, 0, 0, text)

    def test_a_lost_reference_does_not_come_back(self):
        lost = translate(parse("A1"), -1, 0)
        self.check(lost, 1, 0, BADREF)
        self.assertIsNot(translate(lost, 1, 0), translate(lost, 1, 0))

    def test_very_large_distances(self):
        for distance in (12, 10 ** 9, 10 ** 60 - 1):
            self.check(("cell", 5, 5), distance, 0, BADREF)
            self.check(("spill", 5, 5), 0, -distance, BADREF)
            self.check(("range", 0, 0, 11, 11), -distance, distance, BADREF)

    def test_the_greatest_depth(self):
        deep = nested(11, lambda part: ("negate", part), ("cell", 2, 3))
        self.check(deep, 1, 1, nested(11, lambda part: ("negate", part), ("cell", 3, 4)))
        deep = nested(11, lambda part: ("call", "STACK", (part, ("spill", 0, 0))), ("range", 0, 0, 1, 1))
        self.check(deep, 0, 2, nested(
            11, lambda part: ("call", "STACK", (part, ("spill", 0, 2))), ("range", 0, 2, 1, 3)))

    def test_random_expressions(self):
        source = random.Random(9)
        for _ in range(1500):
            expression = random_expression(source, source.randrange(1, 7))
            down, right = source.randrange(-13, 14), source.randrange(-13, 14)
            before = copy.deepcopy(expression)
            result = translate(expression, down, right)
            self.assertTrue(is_expression(result), msg=(expression, down, right))
            self.assertEqual(
                references_of(result),
                [moved(reference, down, right) for reference in references_of(expression)])
            self.assertEqual(without_references(result), without_references(expression))
            self.assertEqual(expression, before)
            text = print_expression(result)
            if len(text) <= 200:
                self.assertEqual(parse(text), result)


if __name__ == "__main__":
    unittest.main()
