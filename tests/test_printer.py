"""The text of expressions in spillsheet.printer."""

import copy
import itertools
import random
import unittest

from spillsheet.errors import BadFormula
from spillsheet.expressions import is_expression
from spillsheet.parser import parse
from spillsheet.printer import print_expression
from tests.random_expressions import random_expression
from tests.samples import nested

OPERATORS = ["+", "-", "*", "/", "<", "<=", "="]
ONE = ("number", 1)
A1 = ("cell", 0, 0)


def binary(operator, left, right):
    return ("binary", operator, left, right)


def pairs_of_parentheses(text):
    """The places of the parentheses that are not those of a function."""
    pairs = []
    opened = []
    for at, character in enumerate(text):
        if character == "(":
            opened.append(at)
        if character == ")":
            start = opened.pop()
            if start == 0 or not text[start - 1].isalpha():
                pairs.append((start, at))
    return pairs


def parsed_or_none(text):
    try:
        return parse(text)
    except BadFormula:
        return None


class PrinterTest(unittest.TestCase):
    def check_there_and_back(self, expression):
        before = copy.deepcopy(expression)
        text = print_expression(expression)
        self.assertEqual(expression, before)
        self.assertIs(type(text), str)
        self.assertNotIn(" ", text)
        if len(text) > 200:
            return
        self.assertEqual(parse(text), expression, msg=text)
        for start, end in pairs_of_parentheses(text):
            shorter = text[:start] + text[start + 1:end] + text[end + 1:]
            self.assertNotEqual(parsed_or_none(shorter), expression, msg=(text, shorter))

    def check(self, expression, text):
        self.assertEqual(print_expression(expression), text)
        self.check_there_and_back(expression)

    def test_the_example_of_the_document(self):
        self.check(binary("-", ONE, binary("-", A1, ("number", 2))), "1-(A1-2)")

    def test_argument_by_name(self):
        self.assertEqual(print_expression(expression=ONE), "1")

    def test_expressions_without_subexpressions(self):
        for expression, text in [
            (("number", 0), "0"), (("number", 10), "10"), (("number", 10 ** 9), "1000000000"),
            (A1, "A1"), (("cell", 11, 11), "L12"), (("cell", 9, 1), "B10"),
            (("spill", 0, 0), "A1#"), (("spill", 11, 2), "C12#"),
            (("range", 0, 0, 2, 1), "A1:B3"), (("range", 4, 4, 4, 4), "E5:E5"),
            (("range", 0, 0, 11, 11), "A1:L12"), (("badref",), "#REF"),
        ]:
            self.check(expression, text)

    def test_calls(self):
        self.check(("call", "SUM", (A1,)), "SUM(A1)")
        self.check(("call", "SEQ", (ONE,)), "SEQ(1)")
        self.check(("call", "SEQ", (ONE, A1)), "SEQ(1,A1)")
        self.check(("call", "IF", (binary("<", ONE, A1), ("negate", ONE), ("badref",))),
                   "IF(1<A1,-1,#REF)")
        for operator in OPERATORS:
            inner = binary(operator, ONE, A1)
            self.check(("call", "SUM", (inner,)), f"SUM(1{operator}A1)")
            self.check(("call", "STACK", (inner, inner)), f"STACK(1{operator}A1,1{operator}A1)")
            self.check(("call", "SUM", (("negate", inner),)), f"SUM(-(1{operator}A1))")

    def test_every_pair_of_operators(self):
        levels = {"<": 0, "<=": 0, "=": 0, "+": 1, "-": 1, "*": 2, "/": 2}
        for outer, inner in itertools.product(OPERATORS, repeat=2):
            inside = binary(inner, A1, ("number", 2))
            inner_text = f"A1{inner}2"
            left_needs = levels[inner] < levels[outer] or levels[inner] == levels[outer] == 0
            right_needs = levels[inner] <= levels[outer]
            left_text = f"({inner_text})" if left_needs else inner_text
            right_text = f"({inner_text})" if right_needs else inner_text
            self.check(binary(outer, inside, ONE), f"{left_text}{outer}1")
            self.check(binary(outer, ONE, inside), f"1{outer}{right_text}")
            self.check(binary(outer, inside, inside), f"{left_text}{outer}{right_text}")

    def test_negations(self):
        self.check(("negate", ONE), "-1")
        self.check(("negate", ("negate", ("negate", A1))), "---A1")
        self.check(("negate", ("call", "SUM", (A1,))), "-SUM(A1)")
        for operator in OPERATORS:
            self.check(("negate", binary(operator, ONE, A1)), f"-(1{operator}A1)")
            self.check(("negate", ("negate", binary(operator, ONE, A1))), f"--(1{operator}A1)")
            self.check(binary(operator, ("negate", ONE), A1), f"-1{operator}A1")
            self.check(binary(operator, ONE, ("negate", A1)), f"1{operator}-A1")
            self.check(binary(operator, ("negate", ONE), ("negate", A1)), f"-1{operator}-A1")
            self.check(binary(operator, ("negate", binary(operator, ONE, A1)), A1),
                       f"-(1{operator}A1){operator}A1")

    def test_every_expression_of_three_levels(self):
        leaves = [ONE]
        second = leaves + [("negate", ONE)] + [binary(operator, ONE, A1) for operator in OPERATORS]
        third = [("negate", inner) for inner in second]
        third += [binary(operator, left, right) for operator in OPERATORS
                  for left in second for right in second]
        for expression in third:
            self.check_there_and_back(expression)
            self.check_there_and_back(("negate", expression))
            self.check_there_and_back(("call", "SUM", (expression,)))
            for operator in OPERATORS:
                self.check_there_and_back(binary(operator, expression, ONE))
                self.check_there_and_back(binary(operator, ONE, expression))

    def test_random_expressions(self):
        source = random.Random(7)
        for _ in range(1500):
            expression = random_expression(source, source.randrange(1, 6))
            self.assertTrue(is_expression(expression))
            self.check_there_and_back(expression)

    def test_the_deepest_expressions(self):
        for wrap in (
            lambda inner: ("negate", inner),
            lambda inner: binary("-", ONE, inner),
            lambda inner: binary("-", inner, ONE),
            lambda inner: ("call", "SUM", (inner,)),
            lambda inner: ("negate", binary("+", ONE, inner)),
        ):
            self.check_there_and_back(nested(5, wrap, ONE))
        self.check_there_and_back(nested(11, lambda inner: binary("/", ONE, inner), ONE))

    def test_texts_that_are_too_long_are_printed(self):
        big = ("number", 10 ** 9)
        expression = nested(6, lambda inner: binary("+", inner, inner), big)
        text = print_expression(expression)
        self.assertEqual(text.count("1000000000"), 64)
        self.assertGreater(len(text), 200)

    def test_values_somewhat_beyond_the_limits(self):
        self.assertEqual(print_expression(("number", 10 ** 9 + 1)), "1000000001")
        self.assertEqual(print_expression(("cell", 12, 12)), "M13")
        self.assertEqual(print_expression(("spill", 12, 0)), "A13#")
        self.assertEqual(print_expression(("range", 0, 0, 12, 13)), "A1:N13")
        self.assertEqual(print_expression(nested(20, lambda inner: ("negate", inner), ONE)),
                         "-" * 20 + "1")


if __name__ == "__main__":
    unittest.main()
