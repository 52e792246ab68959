"""Which values are expressions, their depth and their references."""

import copy
import itertools
import unittest

from spillsheet.expressions import depth_of, is_expression, references_of
from tests.samples import any_values, deep_values, flat_values, nested

ONE = ("number", 1)
OPERATORS = ["+", "-", "*", "/", "<", "<=", "="]
ARGUMENT_COUNTS = {
    "SUM": [1], "COUNT": [1], "MAX": [1], "MIN": [1], "ROWS": [1], "COLUMNS": [1],
    "TRANSPOSE": [1], "SORT": [1], "SEQ": [1, 2], "IFERROR": [2], "FILTER": [2], "TAKE": [2],
    "DROP": [2], "STACK": [2], "BESIDE": [2], "IF": [3], "INDEX": [3],
}
LEAVES = [
    ("number", 0), ("number", 10 ** 9), ("cell", 0, 11), ("range", 0, 0, 11, 11),
    ("spill", 11, 0), ("badref",),
]
# Every kind of expression, with others inside it in every place.
SAMPLES = LEAVES + [
    ("negate", ("negate", ("cell", 3, 4))),
    ("binary", "<=", ("negate", ONE), ("range", 1, 2, 1, 2)),
    ("binary", "-", ("binary", "/", ONE, ONE), ("binary", "*", ("spill", 2, 2), ("badref",))),
    ("call", "SORT", (("range", 0, 0, 5, 1),)),
    ("call", "ROWS", (("cell", 1, 1),)),
    ("call", "TAKE", (("spill", 0, 0), ("negate", ONE))),
    ("call", "IF", (ONE, ("call", "SUM", (("badref",),)), ("binary", "=", ONE, ("cell", 9, 9)))),
]


def wrappers():
    """Ways to put one expression into another one, which is then one level deeper."""
    return [
        lambda inner: ("negate", inner),
        lambda inner: ("binary", "+", inner, ONE),
        lambda inner: ("binary", "+", ONE, inner),
        lambda inner: ("call", "SUM", (inner,)),
        lambda inner: ("call", "SEQ", (ONE, inner)),
        lambda inner: ("call", "IFERROR", (inner, ONE)),
        lambda inner: ("call", "INDEX", (inner, ONE, ONE)),
        lambda inner: ("call", "INDEX", (ONE, inner, ONE)),
        lambda inner: ("call", "INDEX", (ONE, ONE, inner)),
    ]


def places_in(value, place=()):
    """The places of a tuple and of everything in it, as tuples of indexes."""
    found = [place]
    if isinstance(value, tuple):
        for at, part in enumerate(value):
            found += places_in(part, place + (at,))
    return found


def part_at(value, place):
    for at in place:
        value = value[at]
    return value


def replaced(value, place, new):
    """The value with the part at the place replaced."""
    if not place:
        return new
    at = place[0]
    return value[:at] + (replaced(value[at], place[1:], new),) + value[at + 1:]


class IsExpressionTest(unittest.TestCase):
    def check(self, value, expected):
        before = copy.deepcopy(value)
        self.assertIs(is_expression(value), expected, msg=repr(value)[:200])
        self.assertEqual(value, before)

    def test_the_example_of_the_document(self):
        self.check(("cell", 0, 12), False)

    def test_the_samples_are_expressions(self):
        for value in SAMPLES:
            self.check(value, True)
        self.assertIs(is_expression(value=ONE), True)
        self.assertIs(is_expression(value=1), False)

    def test_numbers(self):
        for number in (0, 1, 9, 999999999, 10 ** 9):
            self.check(("number", number), True)
        for number in (-1, 10 ** 9 + 1, -(10 ** 9), 10 ** 60 - 1, -(10 ** 60 - 1), True, False,
                       None, "1", "", 1.0, (1,), [1], {}):
            self.check(("number", number), False)

    def test_cells_and_spills(self):
        inside = (0, 1, 5, 10, 11)
        outside = (-1, 12, 13, 10 ** 60 - 1, -(10 ** 60 - 1), True, False, None, "0", (0,), [0], {})
        for kind in ("cell", "spill"):
            for row, column in itertools.product(inside, repeat=2):
                self.check((kind, row, column), True)
            for row, column in itertools.product(inside, outside):
                self.check((kind, row, column), False)
                self.check((kind, column, row), False)
            for both in outside:
                self.check((kind, both, both), False)

    def test_ranges(self):
        for top, left, bottom, right in itertools.product((-1, 0, 1, 6, 11, 12), repeat=4):
            inside = all(0 <= index <= 11 for index in (top, left, bottom, right))
            expected = inside and top <= bottom and left <= right
            self.check(("range", top, left, bottom, right), expected)

    def test_ranges_with_parts_that_are_no_integers(self):
        for wrong in (True, False, None, "1", 1.0, (1,), [1], {}):
            for at in range(1, 5):
                value = ("range", 1, 1, 1, 1)
                self.check(value[:at] + (wrong,) + value[at + 1:], False)

    def test_badrefs(self):
        self.check(("badref",), True)
        for extra in (None, 0, (0, 0), ONE, "#REF"):
            self.check(("badref", extra), False)

    def test_operators(self):
        for operator in OPERATORS:
            self.check(("binary", operator, ONE, ("cell", 0, 0)), True)
            self.check(("binary", operator), False)
            self.check(("binary", operator, ONE), False)
            self.check(("binary", operator, ONE, ONE, ONE), False)
            self.check(("binary", operator, (ONE, ONE)), False)
            self.check(("binary", ONE, operator, ONE), False)
        for operator in ("", ">", ">=", "<>", "==", "!=", "**", "//", "%", "^", "&", "+ ", " +",
                         "++", "+-", "-*", "=<", "SUM", "binary", "\n"):
            self.check(("binary", operator, ONE, ONE), False)

    def test_functions_with_every_number_of_arguments(self):
        for name, counts in ARGUMENT_COUNTS.items():
            for count in range(6):
                arguments = tuple(("cell", at, at) for at in range(count))
                with self.subTest(name=name, count=count):
                    self.check(("call", name, arguments), count in counts)
                    self.check(("call", name, list(arguments)), False)
                    self.check(("call", name) + arguments, False)
                    self.check(("call", name, arguments, ()), False)
            self.check(("call", name), False)

    def test_unknown_functions(self):
        for name in ("", "sum", "Sum", "SUM ", " SUM", "SUM(", "SU", "SUMS", "AVERAGE", "ABS",
                     "COLUMN", "ROW", "AND", "IFS", "+", "call", "negate", "\n"):
            for count in range(5):
                self.check(("call", name, (ONE,) * count), False)

    def test_the_arguments_of_a_call_are_a_tuple_of_expressions(self):
        for arguments in (ONE, (1,), 1, None, "A", "", (), [], {}, {ONE: ONE}, (None,), ((),),
                          ("number",), ("number", 1), ((ONE,),), ([ONE],), (list(ONE),)):
            for name in ("SUM", "SEQ", "TAKE", "IF"):
                self.check(("call", name, arguments), False)

    def test_unknown_kinds(self):
        for kind in ("", "Number", "NUMBER", "number ", "area", "reference", "function", "unary",
                     "blank", "error", "+", "SUM", "#REF"):
            for fields in ((), (1,), (1, 1), (1, 1, 1, 1), (ONE,), ("+", ONE, ONE), ("SUM", (ONE,))):
                self.check((kind,) + fields, False)

    def test_the_fields_of_one_kind_under_the_name_of_another(self):
        kinds = ("number", "cell", "range", "badref", "negate", "binary", "call")
        fields = {
            "number": (1,), "cell": (1, 1), "range": (1, 1, 1, 1), "badref": (), "negate": (ONE,),
            "binary": ("+", ONE, ONE), "call": ("SUM", (ONE,)),
        }
        for kind in kinds:
            for other in kinds:
                self.check((kind,) + fields[other], kind == other)

    def test_values_that_cannot_be_looked_up_in_a_dict(self):
        for wrong in ([], ["+"], {}, {"SUM": 1}, ([],), (["SUM"],), ({},), [[]], ["number"]):
            self.check(("binary", wrong, ONE, ONE), False)
            for count in range(4):
                self.check(("call", wrong, (ONE,) * count), False)
            self.check((wrong, 1), False)
            self.check((wrong, 1, 1), False)
            self.check((wrong, ONE), False)
            self.check((wrong,), False)

    def test_any_value_in_place_of_any_part(self):
        for sample in SAMPLES:
            for place in places_in(sample):
                for wrong in flat_values() + deep_values():
                    value = replaced(sample, place, wrong)
                    if not self.may_be_right(part_at(sample, place), wrong):
                        self.check(value, False)
                    else:
                        self.assertIsInstance(is_expression(value), bool)

    def may_be_right(self, part, new):
        """Whether an integer replaces an integer, which is tested elsewhere, or nothing changes."""
        if isinstance(part, int):
            return isinstance(new, int) and not isinstance(new, bool)
        return new == part

    def test_lists_in_place_of_tuples(self):
        for sample in SAMPLES:
            for place in places_in(sample):
                part = part_at(sample, place)
                if isinstance(part, tuple):
                    self.check(replaced(sample, place, list(part)), False)

    def test_tuples_that_are_too_short_or_too_long(self):
        for sample in SAMPLES:
            for place in places_in(sample):
                part = part_at(sample, place)
                if isinstance(part, tuple):
                    self.check(replaced(sample, place, part[:-1]), False)
                    self.check(replaced(sample, place, part[1:]), False)
                    self.check(replaced(sample, place, ()), False)
                    self.check(replaced(sample, place, part + (None,)), False)
                    self.check(replaced(sample, place, (None,) + part), False)
                    self.check(replaced(sample, place, part + part), False)

    def test_any_value_is_no_expression_by_itself(self):
        for value in any_values():
            self.check(value, False)

    def test_values_of_many_shapes_get_a_bool(self):
        values = any_values() + SAMPLES
        for first, second in itertools.product(values, repeat=2):
            for value in ((first, second), [first, second], ("call", first, second),
                          ("binary", first, second, second), ("cell", first, second)):
                self.assertIsInstance(is_expression(value), bool)

    def test_depth_twelve_and_thirteen(self):
        for wrap in wrappers():
            for leaf in LEAVES:
                self.check(nested(11, wrap, leaf), True)
                self.check(nested(12, wrap, leaf), False)
                self.check(nested(29, wrap, leaf), False)

    def test_depth_is_the_greatest_of_all_branches(self):
        flat = nested(10, lambda inner: ("negate", inner), ONE)
        deep = ("negate", flat)
        for at in range(3):
            arguments = [ONE, ONE, ONE]
            arguments[at] = flat
            self.check(("call", "IF", tuple(arguments)), True)
            arguments[at] = deep
            self.check(("call", "IF", tuple(arguments)), False)

    def test_a_wrong_part_at_the_greatest_depth(self):
        for wrap in wrappers():
            for wrong in (("number", -1), ("cell", 0, 12), ("badref", 0), None, [], 1, ()):
                for depth in (1, 5, 11):
                    self.check(nested(depth, wrap, wrong), False)

    def test_a_part_that_is_shared_by_many(self):
        twice = nested(11, lambda inner: ("binary", "*", inner, inner), ONE)
        self.assertIs(is_expression(twice), True)
        self.assertIs(is_expression(("negate", twice)), False)


class DepthTest(unittest.TestCase):
    def test_without_subexpressions_it_is_one(self):
        for leaf in LEAVES:
            self.assertEqual(depth_of(leaf), 1)
        self.assertEqual(depth_of(expression=ONE), 1)

    def test_every_kind_adds_one(self):
        for wrap in wrappers():
            for count in range(12):
                for leaf in LEAVES:
                    self.assertEqual(depth_of(nested(count, wrap, leaf)), count + 1)

    def test_every_operator_and_function_adds_one(self):
        inner = ("negate", ("cell", 2, 2))
        for operator in OPERATORS:
            self.assertEqual(depth_of(("binary", operator, inner, ONE)), 3)
            self.assertEqual(depth_of(("binary", operator, ONE, inner)), 3)
        for name, counts in ARGUMENT_COUNTS.items():
            for count in counts:
                for at in range(count):
                    arguments = [ONE] * count
                    arguments[at] = inner
                    self.assertEqual(depth_of(("call", name, tuple(arguments))), 3)

    def test_the_deepest_part_counts(self):
        depths = [1, 1, 1, 1, 1, 1, 3, 3, 3, 2, 2, 3, 3]
        self.assertEqual([depth_of(sample) for sample in SAMPLES], depths)

    def test_deeper_than_an_expression_may_be(self):
        for wrap in wrappers():
            self.assertEqual(depth_of(nested(29, wrap, ONE)), 30)

    def test_nothing_is_changed(self):
        for sample in SAMPLES:
            before = copy.deepcopy(sample)
            depth_of(sample)
            references_of(sample)
            self.assertEqual(sample, before)


class ReferencesTest(unittest.TestCase):
    def test_references_by_themselves(self):
        for leaf in (("cell", 1, 2), ("range", 0, 1, 2, 3), ("spill", 4, 5), ("badref",)):
            self.assertEqual(references_of(leaf), [leaf])
            self.assertEqual(references_of(expression=leaf), [leaf])

    def test_expressions_without_references(self):
        for value in (ONE, ("negate", ONE), ("binary", "+", ONE, ("negate", ONE)),
                      ("call", "INDEX", (ONE, ONE, ONE))):
            self.assertEqual(references_of(value), [])

    def test_every_kind_that_contains_references(self):
        a, b, c = ("cell", 3, 3), ("range", 1, 1, 2, 2), ("spill", 0, 0)
        self.assertEqual(references_of(("negate", a)), [a])
        for operator in OPERATORS:
            self.assertEqual(references_of(("binary", operator, a, b)), [a, b])
            self.assertEqual(references_of(("binary", operator, b, a)), [b, a])
        for name, counts in ARGUMENT_COUNTS.items():
            for count in counts:
                for order in itertools.permutations((a, b, c), count):
                    self.assertEqual(references_of(("call", name, order)), list(order))

    def test_from_left_to_right_through_all_levels(self):
        cells = [("cell", at, 11 - at) for at in range(6)]
        value = ("call", "IF", (
            ("binary", "+", ("negate", cells[5]), ("call", "SUM", (cells[0],))),
            cells[3],
            ("binary", "*", ("binary", "-", cells[1], ONE), ("call", "TAKE", (cells[4], cells[2]))),
        ))
        expected = [cells[at] for at in (5, 0, 3, 1, 4, 2)]
        self.assertEqual(references_of(value), expected)

    def test_with_repetitions(self):
        a, b = ("cell", 0, 0), ("badref",)
        value = ("binary", "+", ("binary", "+", a, b), ("binary", "+", ("negate", a), b))
        self.assertEqual(references_of(value), [a, b, a, b])
        self.assertEqual(references_of(("binary", "=", b, b)), [b, b])

    def test_in_a_deep_expression(self):
        for wrap in wrappers():
            for leaf in (("cell", 0, 0), ("badref",)):
                self.assertEqual(references_of(nested(11, wrap, leaf)), [leaf])
                self.assertEqual(references_of(nested(29, wrap, leaf)), [leaf])

    def test_a_new_list_each_time(self):
        for value in (("cell", 1, 1), ("negate", ("cell", 1, 1)), ONE,
                      ("call", "SUM", (("cell", 1, 1),))):
            first = references_of(value)
            self.assertIs(type(first), list)
            expected = list(first)
            first.append("more")
            self.assertEqual(references_of(value), expected)
            self.assertIsNot(references_of(value), references_of(value))


if __name__ == "__main__":
    unittest.main()
