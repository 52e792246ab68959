"""Scalars, operators and aggregates in spillsheet.scalars."""

import copy
import fractions
import itertools
import math
import unittest

from spillsheet.scalars import (
    aggregate, apply_operator, as_number, is_error, is_scalar, negate,
)
from tests.samples import any_values

LIMIT = 10 ** 9
CODES = ["#DIV", "#EMPTY", "#NUM", "#REF", "#SHAPE", "#SIZE", "#SPILL"]
NUMBERS = [
    0, 1, -1, 2, -2, 3, -3, 7, -7, 10, -10, 31622, 31623, -31623, LIMIT // 2, LIMIT // 2 + 1,
    -LIMIT // 2, -LIMIT // 2 - 1, LIMIT - 1, -LIMIT + 1, LIMIT, -LIMIT,
]
SCALARS = NUMBERS + [None] + CODES
OPERATORS = ["+", "-", "*", "/", "<", "<=", "="]


def expected_result(operator, left, right):
    """What an operator computes from two numbers, worked out in another way."""
    if operator in ("<", "<=", "="):
        holds = {"<": left < right, "<=": not right < left, "=": left - right == 0}[operator]
        return 1 if holds else 0
    if operator == "/":
        if right == 0:
            return "#DIV"
        result = math.floor(fractions.Fraction(left, right))
    else:
        result = {
            "+": sum([left, right]),
            "-": sum([left, -right]),
            "*": (abs(left) * abs(right)) * (1 if (left < 0) == (right < 0) else -1),
        }[operator]
    return result if abs(result) <= LIMIT else "#NUM"


class IsScalarTest(unittest.TestCase):
    def check(self, value, expected):
        before = copy.deepcopy(value)
        self.assertIs(is_scalar(value), expected, msg=repr(value)[:200])
        self.assertEqual(value, before)

    def test_numbers_up_to_the_limits(self):
        for value in NUMBERS:
            self.check(value, True)

    def test_integers_beyond_the_limits(self):
        for value in (LIMIT + 1, -LIMIT - 1, 10 ** 10, 10 ** 60 - 1, -(10 ** 60 - 1)):
            self.check(value, False)

    def test_a_blank_and_the_error_codes(self):
        for value in [None] + CODES:
            self.check(value, True)

    def test_bools_are_not_scalars(self):
        self.check(True, False)
        self.check(False, False)

    def test_strings_that_resemble_error_codes(self):
        for code in CODES:
            for text in (code[1:], code.lower(), code + " ", " " + code, code + "\n", code[:-1],
                         code + "!", "#" + code, code + code, code.title()):
                self.check(text, False)
        for text in ("", "#", "0", "5", "-1", "None", "single", "?", "#N/A", "#VALUE"):
            self.check(text, False)

    def test_tuples_lists_and_dicts_are_not_scalars(self):
        for value in [(), [], {}, (1,), [1], {1: 1}, ("#DIV",), ["#DIV"], {"#DIV": "#DIV"},
                      (None,), [None], ("number", 1)]:
            self.check(value, False)

    def test_any_other_value(self):
        for value in any_values():
            simple = type(value) is int and abs(value) <= LIMIT
            self.check(value, value is None or simple or value == "#REF")


class IsErrorTest(unittest.TestCase):
    def test_error_codes_and_other_scalars(self):
        for scalar in SCALARS:
            self.assertIs(is_error(scalar), scalar in CODES)

    def test_argument_by_name(self):
        self.assertIs(is_error(scalar="#NUM"), True)
        self.assertIs(is_scalar(value="#NUM"), True)
        self.assertEqual(as_number(scalar=None), 0)


class AsNumberTest(unittest.TestCase):
    def test_a_blank_is_0_and_a_number_is_itself(self):
        self.assertEqual(as_number(None), 0)
        for number in NUMBERS:
            self.assertEqual(as_number(number), number)
        for scalar in NUMBERS + [None]:
            self.assertIs(type(as_number(scalar)), int)


class ApplyOperatorTest(unittest.TestCase):
    def check(self, operator, left, right, expected):
        result = apply_operator(operator, left, right)
        self.assertEqual(result, expected, msg=(operator, left, right))
        self.assertIs(type(result), type(expected), msg=(operator, left, right))

    def test_the_example_of_the_document(self):
        self.check("/", -7, 2, -4)

    def test_all_operators_on_all_numbers_and_blanks(self):
        for operator in OPERATORS:
            for left, right in itertools.product(NUMBERS + [None], repeat=2):
                expected = expected_result(operator, left or 0, right or 0)
                self.check(operator, left, right, expected)

    def test_results_at_the_limits(self):
        self.check("+", LIMIT - 1, 1, LIMIT)
        self.check("+", LIMIT, 1, "#NUM")
        self.check("+", -LIMIT + 1, -1, -LIMIT)
        self.check("+", -LIMIT, -1, "#NUM")
        self.check("-", -LIMIT, 0, -LIMIT)
        self.check("-", -LIMIT, 1, "#NUM")
        self.check("-", LIMIT, -1, "#NUM")
        self.check("-", LIMIT, LIMIT, 0)
        self.check("*", 31622, 31622, 999950884)
        self.check("*", 31623, 31623, "#NUM")
        self.check("*", LIMIT, -1, -LIMIT)
        self.check("*", 10 ** 5, 10 ** 4, LIMIT)
        self.check("*", -LIMIT, -LIMIT, "#NUM")
        self.check("/", -LIMIT, -1, LIMIT)

    def test_the_quotient_is_rounded_down(self):
        for left, right, expected in [
            (7, 2, 3), (-7, 2, -4), (7, -2, -4), (-7, -2, 3), (1, LIMIT, 0), (-1, LIMIT, -1),
            (6, 3, 2), (-6, 3, -2), (0, 5, 0), (0, -5, 0), (LIMIT, 3, 333333333),
            (-LIMIT, 3, -333333334),
        ]:
            self.check("/", left, right, expected)

    def test_division_by_0_and_by_a_blank(self):
        for left in (0, 1, -1, None, LIMIT):
            self.check("/", left, 0, "#DIV")
            self.check("/", left, None, "#DIV")

    def test_an_error_code_on_the_left_comes_first(self):
        for operator in OPERATORS:
            for left in CODES:
                for right in SCALARS:
                    self.check(operator, left, right, left)

    def test_an_error_code_on_the_right(self):
        for operator in OPERATORS:
            for right in CODES:
                for left in NUMBERS + [None]:
                    self.check(operator, left, right, right)

    def test_comparisons_are_integers(self):
        for operator in ("<", "<=", "="):
            for left, right in itertools.product((0, 1, None), repeat=2):
                self.assertIs(type(apply_operator(operator, left, right)), int)

    def test_arguments_by_name(self):
        self.assertEqual(apply_operator(right=2, left=9, operator="-"), 7)


class NegateTest(unittest.TestCase):
    def test_numbers_blanks_and_error_codes(self):
        for number in NUMBERS:
            self.assertEqual(negate(number), -number)
            self.assertIs(type(negate(number)), int)
        self.assertEqual(negate(None), 0)
        self.assertIs(type(negate(None)), int)
        for code in CODES:
            self.assertEqual(negate(code), code)

    def test_argument_by_name(self):
        self.assertEqual(negate(scalar=3), -3)


class AggregateTest(unittest.TestCase):
    def check(self, name, scalars, expected):
        for sequence in (list(scalars), tuple(scalars)):
            before = copy.deepcopy(sequence)
            result = aggregate(name, sequence)
            self.assertEqual(result, expected, msg=(name, scalars))
            self.assertIs(type(result), type(expected), msg=(name, scalars))
            self.assertEqual(sequence, before)

    def test_the_examples_of_the_document(self):
        self.check("MAX", [None, 3, "#DIV", "#REF"], "#DIV")
        self.check("COUNT", [None, 3, "#DIV"], 1)

    def test_nothing_and_only_blanks(self):
        for scalars in ([], [None], [None, None, None]):
            self.check("SUM", scalars, 0)
            self.check("COUNT", scalars, 0)
            self.check("MAX", scalars, "#EMPTY")
            self.check("MIN", scalars, "#EMPTY")

    def test_numbers_and_blanks(self):
        for scalars, total, count, greatest, least in [
            ([5], 5, 1, 5, 5),
            ([0], 0, 1, 0, 0),
            ([-5, None], -5, 1, -5, -5),
            ([None, 5], 5, 1, 5, 5),
            ([3, 1, 2], 6, 3, 3, 1),
            ([3, None, -1, 3], 5, 3, 3, -1),
            ([-3, -2], -5, 2, -2, -3),
            ([LIMIT, -LIMIT], 0, 2, LIMIT, -LIMIT),
        ]:
            self.check("SUM", scalars, total)
            self.check("COUNT", scalars, count)
            self.check("MAX", scalars, greatest)
            self.check("MIN", scalars, least)

    def test_the_first_error_code(self):
        for name in ("SUM", "MAX", "MIN"):
            for code in CODES:
                self.check(name, [code], code)
                self.check(name, [1, None, code], code)
                self.check(name, [code, 1, None], code)
                for other in CODES:
                    self.check(name, [None, code, 2, other], code)
                # Also where the numbers before it are too many for a sum.
                self.check(name, [LIMIT, LIMIT, code], code)
                self.check(name, [code, LIMIT, LIMIT], code)

    def test_count_ignores_error_codes(self):
        for code in CODES:
            self.check("COUNT", [code], 0)
            self.check("COUNT", [1, code, None, 2, code, 0], 3)

    def test_sums_around_the_limits(self):
        self.check("SUM", [LIMIT - 1, 1], LIMIT)
        self.check("SUM", [LIMIT, 1], "#NUM")
        self.check("SUM", [1 - LIMIT, -1], -LIMIT)
        self.check("SUM", [-LIMIT, -1], "#NUM")
        # Only the sum itself counts, not the sums on the way.
        self.check("SUM", [LIMIT, 1, -1], LIMIT)
        self.check("SUM", [LIMIT] * 144, "#NUM")
        self.check("SUM", [-LIMIT, -LIMIT, LIMIT], -LIMIT)
        self.check("MAX", [LIMIT, LIMIT], LIMIT)
        self.check("COUNT", [LIMIT, LIMIT], 2)

    def test_arguments_by_name(self):
        self.assertEqual(aggregate(scalars=[1, 2], name="SUM"), 3)


if __name__ == "__main__":
    unittest.main()
