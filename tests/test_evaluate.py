"""Evaluating expressions in spillsheet.evaluate: what each kind of expression returns."""

import copy
import time
import unittest

from spillsheet.evaluate import evaluate
from spillsheet.expressions import depth_of
from spillsheet.parser import parse
from tests.answers import asked, result_of, shown, shown_below
from tests.samples import nested

CODES = ["#DIV", "#EMPTY", "#NUM", "#REF", "#SHAPE", "#SIZE", "#SPILL"]
# D1 and D2 hold formulas, E1 a number; everything else is empty.
SHEET = (8, 6, {(0, 3): ("number", 1), (1, 3): ("cell", 0, 0), (0, 4): 7})
# A column of numbers with a blank in A1:A4, and an error code in A5.
COLUMN = shown_below("A1", 5, None, -2, 9, "#DIV")
# Rows of two cells in B1:C4.
TABLE = {**shown_below("B1", 3, 1, 2, 1), **shown_below("C1", 10, 20, 30, 40)}


class CountingDict(dict):
    """A dict that counts how often something is looked up in it."""

    count = 0

    def __contains__(self, key):
        self.count += 1
        return dict.__contains__(self, key)


class EvaluateTestCase(unittest.TestCase):
    def evaluate(self, text, part, answers, sheet=SHEET):
        expression = parse(text) if isinstance(text, str) else text
        arguments = [expression, part, sheet, answers]
        before = copy.deepcopy(arguments)
        outcome = evaluate(*arguments)
        self.assertEqual(arguments, before)
        self.assertIs(type(outcome), tuple)
        return outcome

    def check(self, text, part, answers, expected, sheet=SHEET):
        outcome = self.evaluate(text, part, answers, sheet)
        self.assertEqual(outcome, ("answer", expected), msg=(text, part))
        self.assertIs(type(outcome[1]), type(expected), msg=(text, part))

    def check_missing(self, text, part, answers, *words):
        outcome = self.evaluate(text, part, answers)
        self.assertEqual(outcome, ("missing", asked(*words)), msg=(text, part))
        self.assertIs(type(outcome[1]), list)

    def check_result(self, text, answers, listed, sheet=SHEET):
        """Rows, columns, failure and all elements of a result without a failure."""
        self.check(text, ("rows",), answers, len(listed), sheet)
        self.check(text, ("columns",), answers, len(listed[0]), sheet)
        self.check(text, ("failure",), answers, None, sheet)
        for i, row in enumerate(listed):
            for j, scalar in enumerate(row):
                self.check(text, ("element", i, j), answers, scalar, sheet)

    def check_failure(self, text, answers, code, sheet=SHEET):
        """A failure replaces the whole result."""
        self.check(text, ("rows",), answers, 1, sheet)
        self.check(text, ("columns",), answers, 1, sheet)
        self.check(text, ("failure",), answers, code, sheet)
        self.check(text, ("element", 0, 0), answers, code, sheet)


class InterfaceExamplesTest(EvaluateTestCase):
    def test_the_examples_of_the_document(self):
        sheet = (3, 3, {})
        self.assertEqual(evaluate(parse("IF(C1,SEQ(2),SEQ(3))"), ("rows",), sheet, {}),
                         ("missing", [("shown", (0, 2))]))
        self.assertEqual(
            evaluate(parse("IF(C1,SEQ(2),SEQ(3))"), ("rows",), sheet, {("shown", (0, 2)): 1}),
            ("answer", 2))
        self.assertEqual(evaluate(parse("IF(C1,1,2)"), ("rows",), sheet, {}), ("answer", 1))

    def test_arguments_by_name(self):
        self.assertEqual(
            evaluate(answers={}, sheet=(1, 1, {}), part=("element", 0, 0), expression=("number", 4)),
            ("answer", 4))

    def test_lists_are_new_each_time(self):
        for text in ("B1", "SUM(B1:B3)", "IF(A1,SEQ(B1),SEQ(C1))", "D1#"):
            first = self.evaluate(text, ("element", 0, 0), {})
            first[1].append("changed")
            second = self.evaluate(text, ("element", 0, 0), {})
            self.assertEqual(first[1], second[1] + ["changed"])


class LeavesTest(EvaluateTestCase):
    def test_numbers(self):
        for n in (0, 1, 12, 10 ** 9):
            self.check_result(str(n), {}, [[n]])

    def test_badref(self):
        self.check_result("#REF", {}, [["#REF"]])

    def test_cells(self):
        for scalar in [0, 1, -5, 10 ** 9, None] + CODES:
            self.check_result("B2", shown(B2=scalar), [[scalar]])
            # An error code that a cell shows is not a failure.
            self.check("B2", ("failure",), shown(B2=scalar), None)

    def test_cells_without_an_answer(self):
        self.check("B2", ("rows",), {}, 1)
        self.check("B2", ("columns",), {}, 1)
        self.check("B2", ("failure",), {}, None)
        self.check_missing("B2", ("element", 0, 0), shown(B1=1, A2=1), "shown B2")
        # What the contents are does not matter: only the answers do.
        self.check_missing("E1", ("element", 0, 0), {}, "shown E1")

    def test_cells_outside_the_grid(self):
        for text in ("A9", "G1", "L12", "G9", "F9", "G8"):
            self.check_result(text, {}, [["#REF"]])
        self.check_missing("F8", ("element", 0, 0), {}, "shown F8")
        self.check_result("B1", {}, [["#REF"]], sheet=(2, 1, {}))
        self.check_result("A3", {}, [["#REF"]], sheet=(2, 1, {}))

    def test_ranges(self):
        self.check_result("A1:A5", COLUMN, [[5], [None], [-2], [9], ["#DIV"]])
        self.check_result("B1:C4", TABLE, [[3, 10], [1, 20], [2, 30], [1, 40]])
        self.check_result("B2:C2", TABLE, [[1, 20]])
        self.check_result("C3:C3", TABLE, [[30]])

    def test_ranges_without_answers(self):
        self.check("B2:D6", ("rows",), {}, 5)
        self.check("B2:D6", ("columns",), {}, 3)
        self.check("B2:D6", ("failure",), {}, None)
        self.check_missing("B2:D6", ("element", 2, 1), {}, "shown C4")
        self.check("A1:F8", ("rows",), {}, 8)
        self.check("A1:F8", ("columns",), {}, 6)
        self.check_missing("A1:F8", ("element", 7, 5), {}, "shown F8")

    def test_ranges_that_are_not_inside_the_grid(self):
        for text in ("A1:A9", "A1:G1", "F8:G8", "F8:F9", "A9:A9", "G1:L12", "A1:L12"):
            self.check_result(text, COLUMN, [["#REF"]])

    def test_spill_references_to_nothing(self):
        for text in ("A1#", "E1#", "F8#", "A9#", "G1#", "L12#"):
            self.check_result(text, {}, [["#REF"]])

    def test_spill_references_to_formulas(self):
        answers = result_of("D1", 2, 3, "spilled", [[1, None, 3], ["#NUM", 5, 6]])
        self.check_result("D1#", answers, [[1, None, 3], ["#NUM", 5, 6]])
        self.check_result("D2#", result_of("D2", 1, 1, "single", [[8]]), [[8]])
        self.check_result("D2#", result_of("D2", 1, 1, "single", [["#SIZE"]]), [["#SIZE"]])

    def test_spill_references_to_formulas_that_are_blocked(self):
        self.check_failure("D1#", result_of("D1", 2, 3, "blocked"), "#SPILL")
        self.check_failure("D1#", result_of("D1", status="blocked"), "#SPILL")
        # The status alone decides: an answer may be wrong.
        self.check_failure("D1#", result_of("D1", 1, 1, "blocked", [[5]]), "#SPILL")

    def test_spill_references_without_answers(self):
        self.check_missing("D1#", ("rows",), {}, "rows D1", "status D1")
        self.check_missing("D1#", ("columns",), {}, "columns D1", "status D1")
        self.check_missing("D1#", ("failure",), {}, "status D1")
        self.check_missing("D1#", ("element", 0, 0), {}, "status D1")

    def test_spill_references_with_some_answers(self):
        for status in ("single", "spilled"):
            answers = result_of("D1", status=status)
            self.check_missing("D1#", ("rows",), answers, "rows D1")
            self.check_missing("D1#", ("columns",), answers, "columns D1")
            self.check("D1#", ("failure",), answers, None)
            self.check_missing("D1#", ("element", 1, 2), answers, "element D1 1 2")
        # One row is one row, with and without a failure.
        self.check("D1#", ("rows",), result_of("D1", rows=1), 1)
        self.check("D1#", ("columns",), result_of("D1", columns=1), 1)
        self.check_missing("D1#", ("rows",), result_of("D1", rows=2), "status D1")
        self.check_missing("D1#", ("columns",), result_of("D1", columns=2), "status D1")
        self.check_missing("D1#", ("element", 0, 0), result_of("D1", 1, 1), "status D1")
        self.check_missing("D1#", ("element", 0, 0), result_of("D1", 1, 1, "single"),
                           "element D1 0 0")


class OperatorsTest(EvaluateTestCase):
    def test_negations(self):
        self.check_result("-A1:A5", COLUMN, [[-5], [0], [2], [-9], ["#DIV"]])
        self.check_result("--B1:C1", TABLE, [[3, 10]])
        self.check_failure("-SEQ(0)", {}, "#SIZE")
        self.check_failure("-D1#", result_of("D1", status="blocked"), "#SPILL")
        self.check_missing("-D1#", ("rows",), {}, "rows D1", "status D1")
        self.check_missing("-D1#", ("columns",), {}, "columns D1", "status D1")
        self.check_missing("-D1#", ("failure",), {}, "status D1")
        self.check_missing("-B1", ("element", 0, 0), {}, "shown B1")

    def test_operators_on_single_elements(self):
        answers = shown(A1=7, B1=2, C1=None)
        for text, expected in [
            ("A1+B1", 9), ("A1-B1", 5), ("A1*B1", 14), ("A1/B1", 3), ("-A1/B1", -4), ("A1<B1", 0),
            ("B1<=A1", 1), ("A1=B1", 0), ("A1=7", 1), ("A1+C1", 7), ("A1/C1", "#DIV"),
            ("C1=0", 1), ("C1<1", 1), ("1000000000+A1", "#NUM"),
        ]:
            self.check_result(text, answers, [[expected]])

    def test_operators_on_arrays_of_the_same_size(self):
        self.check_result("B1:C2+B3:C4", TABLE, [[5, 40], [2, 60]])
        self.check_result("A1:A4*B1:B4", {**COLUMN, **TABLE}, [[15], [0], [-4], [9]])
        self.check_result("A4:A5/B1:B2", {**COLUMN, **TABLE}, [[3], ["#DIV"]])

    def test_a_single_element_goes_with_every_element(self):
        self.check_result("B1:C2*2", TABLE, [[6, 20], [2, 40]])
        self.check_result("100-B1:C2", TABLE, [[97, 90], [99, 80]])
        self.check_result("B1:C2+A1", {**TABLE, **COLUMN}, [[8, 15], [6, 25]])
        self.check_result("A5+B1:C2", {**TABLE, **COLUMN}, [["#DIV", "#DIV"], ["#DIV", "#DIV"]])
        self.check_result("B1:C1/A2", {**TABLE, **COLUMN}, [["#DIV", "#DIV"]])
        self.check_result("SEQ(1,3)+1", {}, [[2, 3, 4]])
        self.check_result("1+SEQ(3)", {}, [[2], [3], [4]])

    def test_sizes_that_do_not_go_together(self):
        for text in ("A1:A2+A1:A3", "A1:A3+A1:A2", "A1:B1+A1:A2", "A1:A2+A1:B1", "A1:B2+A1:A2",
                     "A1:B2+A1:B1", "A1:B1+A1:B2", "SEQ(2,3)=SEQ(3,2)", "A1:C1<A1:A3"):
            self.check_failure(text, {}, "#SHAPE")

    def test_failures_of_the_operands(self):
        self.check_failure("SEQ(0)+1", {}, "#SIZE")
        self.check_failure("1+SEQ(0)", {}, "#SIZE")
        self.check_failure("SEQ(0)+FILTER(1,0)", {}, "#SIZE")
        self.check_failure("FILTER(1,0)+SEQ(0)", {}, "#EMPTY")
        self.check_failure("A1:A3+FILTER(1,0)", {}, "#EMPTY")
        # The failures come before the sizes.
        self.check_failure("(A1:A2+A1:A3)*SEQ(0)", {}, "#SHAPE")

    def test_an_error_code_on_the_left_ends_the_search(self):
        self.check("A5+B1", ("element", 0, 0), shown(A5="#DIV"), "#DIV")
        self.check_missing("B1+A5", ("element", 0, 0), shown(A5="#DIV"), "shown B1")
        self.check("SEQ(0)+D1#", ("failure",), {}, "#SIZE")
        self.check_missing("D1#+SEQ(0)", ("failure",), {}, "status D1")

    def test_rows_and_columns_with_missing_questions(self):
        # Rows of the left are enough if they are more than 1, but then there may be a failure.
        self.check_missing("A1:A2+D1#", ("rows",), {}, "status D1")
        single = result_of("D1", status="single")
        self.check_missing("A1:A2+D1#", ("rows",), single, "rows D1")
        self.check_missing("A1:A2+D1#", ("rows",), single | result_of("D1", rows=2), "columns D1")
        self.check("A1:A2+D1#", ("rows",), single | result_of("D1", 2, 1), 2)
        self.check("A1:A2+D1#", ("rows",), single | result_of("D1", 1, 1), 2)
        self.check("A1:A2+D1#", ("rows",), single | result_of("D1", 2, 2), 1)
        # Columns of the left are 1, so those of the right count.
        self.check_missing("A1:A2+D1#", ("columns",), {}, "columns D1", "status D1")
        self.check_missing("A1:A2+D1#", ("columns",), single, "columns D1", "rows D1")
        self.check("A1:A2+D1#", ("columns",), result_of("D1", columns=1), 1)
        self.check_missing("D1#+D2#", ("rows",), {}, "rows D1", "status D1")
        self.check_missing("D1#+D2#", ("rows",), result_of("D1", rows=1), "rows D2", "status D2",
                           "status D1")

    def test_sizes_named_together_are_all_evaluated(self):
        spilled = result_of("D1", status="single")
        self.check_missing("D1#+A1:A2", ("failure",), spilled, "rows D1")
        rows = result_of("D1", status="single", rows=2)
        self.check_missing("D1#+A1:A2", ("failure",), rows, "columns D1")
        # Even if the rows alone already tell that the sizes do not go together.
        self.check_missing("D1#+A1:A3", ("failure",), rows, "columns D1")
        self.check_missing("A1:A3+D1#", ("failure",), rows, "columns D1")

    def test_elements_with_missing_questions(self):
        self.check_missing("A1:A2+B1:B2", ("element", 1, 0), {}, "shown A2")
        self.check_missing("A1:A2+B1:B2", ("element", 1, 0), shown(A2=1), "shown B2")
        self.check_missing("A1+B1:B2", ("element", 1, 0), shown(A2=1, B2=1), "shown A1")
        self.check_missing("A1:A2+B1", ("element", 1, 0), shown(A2=1, B2=1), "shown B1")


class AggregatesTest(EvaluateTestCase):
    def test_sums_counts_and_extremes(self):
        self.check_result("SUM(A1:A4)", COLUMN, [[12]])
        self.check_result("COUNT(A1:A5)", COLUMN, [[3]])
        self.check_result("MAX(A1:A4)", COLUMN, [[9]])
        self.check_result("MIN(A1:A4)", COLUMN, [[-2]])
        self.check_result("SUM(B1:C4)", TABLE, [[107]])
        self.check_result("SUM(A2)", COLUMN, [[0]])
        self.check_result("COUNT(A2)", COLUMN, [[0]])
        self.check_result("MAX(A2)", COLUMN, [["#EMPTY"]])
        self.check_result("MIN(A2)", COLUMN, [["#EMPTY"]])
        self.check_result("SUM(SEQ(12,12))", {}, [[144 * 145 // 2]])
        self.check_result("SUM(B1:B2*1000000000)", TABLE, [["#NUM"]])

    def test_error_codes_among_the_elements(self):
        for name in ("SUM", "MAX", "MIN"):
            self.check_result(f"{name}(A1:A5)", COLUMN, [["#DIV"]])
            # The first error code ends the search; what is behind it is not asked.
            self.check_result(f"{name}(A1:A3)", shown(A1=1, A2="#REF"), [["#REF"]])
            self.check_missing(f"{name}(A1:A3)", ("element", 0, 0), shown(A2="#REF"), "shown A1")
        self.check_missing("COUNT(A1:A3)", ("element", 0, 0), shown(A1=1, A2="#REF"), "shown A3")
        self.check_result("COUNT(A1:A3)", shown(A1=1, A2="#REF", A3=2), [[2]])

    def test_elements_in_reading_order(self):
        self.check_missing("SUM(B1:C2)", ("element", 0, 0), {}, "shown B1")
        self.check_missing("SUM(B1:C2)", ("element", 0, 0), shown(B1=1), "shown C1")
        self.check_missing("SUM(B1:C2)", ("element", 0, 0), shown(B1=1, C1=1), "shown B2")
        self.check_result("MAX(B1:C2)", shown(B1=1, C1="#NUM", B2="#REF"), [["#NUM"]])

    def test_failures_of_the_argument_are_elements(self):
        for name in ("SUM", "COUNT", "MAX", "MIN"):
            self.check_result(f"{name}(SEQ(0))", {}, [["#SIZE"]])
            self.check_result(f"{name}(D1#)", result_of("D1", status="blocked"), [["#SPILL"]])

    def test_missing_questions(self):
        for name in ("SUM", "COUNT", "MAX", "MIN"):
            text = f"{name}(D1#)"
            for part, expected in [(("rows",), 1), (("columns",), 1), (("failure",), None)]:
                self.check(text, part, {}, expected)
            element = ("element", 0, 0)
            self.check_missing(text, element, {}, "status D1")
            self.check_missing(text, element, result_of("D1", status="single"), "rows D1")
            self.check_missing(text, element, result_of("D1", status="single", rows=1), "columns D1")
            self.check_missing(text, element, result_of("D1", 1, 2, "spilled"), "element D1 0 0")
            self.check_missing(text, element, result_of("D1", 1, 2, "spilled", [[3]]),
                               "element D1 0 1")
        self.check_result("SUM(D1#)", result_of("D1", 1, 2, "spilled", [[3, 4]]), [[7]])

    def test_rows_and_columns(self):
        self.check_result("ROWS(A1:C2)", {}, [[2]])
        self.check_result("COLUMNS(A1:C2)", {}, [[3]])
        self.check_result("ROWS(7)", {}, [[1]])
        self.check_result("ROWS(SEQ(0))", {}, [[1]])
        self.check_result("COLUMNS(A1:A2+A1:A3)", {}, [[1]])
        self.check_result("ROWS(D1#)", result_of("D1", 4, 5, "spilled"), [[4]])
        self.check_result("COLUMNS(D1#)", result_of("D1", 4, 5, "spilled"), [[5]])
        self.check_result("ROWS(D1#)", result_of("D1", status="blocked"), [[1]])
        self.check_result("COLUMNS(D1#)", result_of("D1", columns=1), [[1]])
        self.check_missing("ROWS(D1#)", ("element", 0, 0), {}, "rows D1", "status D1")
        self.check_missing("COLUMNS(D1#)", ("element", 0, 0), result_of("D1", 2, 2), "status D1")


class ScalarArgumentsTest(EvaluateTestCase):
    """Scalar arguments, with INDEX and SEQ."""

    def test_index(self):
        for i in range(1, 5):
            for j in range(1, 3):
                self.check_result(f"INDEX(B1:C4,{i},{j})", TABLE,
                                  [[TABLE["shown", (i - 1, j)]]])
        self.check_result("INDEX(A1:A5,2,1)", COLUMN, [[None]])
        self.check_result("INDEX(A1:A5,5,1)", COLUMN, [["#DIV"]])

    def test_indexes_outside(self):
        for arguments in ("0,1", "1,0", "5,1", "1,3", "-1,1", "1,-1", "5,3", "1000000000,1"):
            self.check_result(f"INDEX(B1:C4,{arguments})", {}, [["#SIZE"]])
        self.check_result("INDEX(B1:C4,A1,1)", shown(A1=None), [["#SIZE"]])

    def test_index_with_error_codes(self):
        self.check_result("INDEX(SEQ(0),#REF,1/0)", {}, [["#SIZE"]])
        self.check_result("INDEX(SEQ(3),#REF,1/0)", {}, [["#REF"]])
        self.check_result("INDEX(SEQ(3),1,1/0)", {}, [["#DIV"]])
        self.check_result("INDEX(SEQ(3),9,1/0)", {}, [["#DIV"]])
        self.check_result("INDEX(SEQ(3),A1:A2,B1)", {}, [["#SHAPE"]])
        self.check_result("INDEX(SEQ(3),1,A1:B1)", {}, [["#SHAPE"]])
        self.check_result("INDEX(SEQ(3),SEQ(0),B1)", {}, [["#SIZE"]])

    def test_index_with_missing_questions(self):
        element = ("element", 0, 0)
        self.check("INDEX(D1#,A1,B1)", ("rows",), {}, 1)
        self.check("INDEX(D1#,A1,B1)", ("columns",), {}, 1)
        self.check("INDEX(D1#,A1,B1)", ("failure",), {}, None)
        self.check_missing("INDEX(D1#,A1,B1)", element, {}, "status D1")
        single = result_of("D1", status="single")
        self.check_missing("INDEX(D1#,A1,B1)", element, single, "shown A1")
        self.check_missing("INDEX(D1#,A1,B1)", element, single | shown(A1=9), "shown B1")
        self.check("INDEX(D1#,A1,B1)", element, single | shown(A1="#NUM"), "#NUM")
        self.check("INDEX(D1#,A1,B1)", element, single | shown(A1=9, B1="#NUM"), "#NUM")
        self.check_missing("INDEX(D1#,A1,B1)", element, single | shown(A1=0, B1=1), "rows D1")
        some = single | result_of("D1", rows=2) | shown(A1=9, B1=1)
        # The rows alone would tell that the first number is too large.
        self.check_missing("INDEX(D1#,A1,B1)", element, some, "columns D1")
        self.check("INDEX(D1#,A1,B1)", element, some | result_of("D1", columns=1), "#SIZE")
        both = single | result_of("D1", 2, 1) | shown(A1=2, B1=1)
        self.check_missing("INDEX(D1#,A1,B1)", element, both, "element D1 1 0")

    def test_sequences(self):
        self.check_result("SEQ(1)", {}, [[1]])
        self.check_result("SEQ(3)", {}, [[1], [2], [3]])
        self.check_result("SEQ(2,3)", {}, [[1, 2, 3], [4, 5, 6]])
        self.check_result("SEQ(1,12)", {}, [list(range(1, 13))])
        self.check_result("SEQ(12,12)", {}, [list(range(12 * i + 1, 12 * i + 13))
                                             for i in range(12)])
        self.check_result("SEQ(A1,B1)", shown(A1=2, B1=2), [[1, 2], [3, 4]])

    def test_sequences_of_other_sizes(self):
        for arguments in ("0", "13", "-1", "1,0", "1,13", "0,1", "13,1", "0,0", "1000000000,1"):
            self.check_failure(f"SEQ({arguments})", {}, "#SIZE")
        self.check_failure("SEQ(A1)", shown(A1=None), "#SIZE")
        self.check_failure("SEQ(2,A1)", shown(A1=None), "#SIZE")
        self.check_failure("SEQ(A1:A2)", {}, "#SHAPE")
        self.check_failure("SEQ(2,A1:B1)", {}, "#SHAPE")
        self.check_failure("SEQ(1/0,#REF)", {}, "#DIV")
        self.check_failure("SEQ(2,#REF)", {}, "#REF")
        self.check_failure("SEQ(0,#REF)", {}, "#REF")

    def test_sequences_with_missing_questions(self):
        self.check_missing("SEQ(A1,B1)", ("rows",), {}, "shown A1")
        self.check_missing("SEQ(A1,B1)", ("columns",), {}, "shown B1", "shown A1")
        self.check_missing("SEQ(A1,B1)", ("failure",), {}, "shown A1")
        self.check_missing("SEQ(A1,B1)", ("rows",), shown(A1=3), "shown B1")
        self.check_missing("SEQ(A1,B1)", ("columns",), shown(B1=3), "shown A1")
        self.check("SEQ(A1,B1)", ("rows",), shown(A1=1), 1)
        self.check("SEQ(A1,B1)", ("rows",), shown(A1=13), 1)
        self.check("SEQ(A1,B1)", ("columns",), shown(B1=0), 1)
        # An error code as the first argument is enough for a failure, a wrong number is not.
        self.check("SEQ(A1,B1)", ("failure",), shown(A1="#NUM"), "#NUM")
        self.check("SEQ(A1,B1)", ("columns",), shown(A1="#NUM"), 1)
        self.check_missing("SEQ(A1,B1)", ("failure",), shown(A1=13), "shown B1")
        self.check_missing("SEQ(A1,B1)", ("failure",), shown(B1=13), "shown A1")
        self.check("SEQ(A1)", ("columns",), {}, 1)

    def test_scalar_arguments_with_missing_questions(self):
        self.check_missing("SEQ(D1#)", ("rows",), {}, "status D1")
        single = result_of("D1", status="single")
        self.check_missing("SEQ(D1#)", ("rows",), single, "rows D1")
        # More than one row is enough; the columns are asked only if there is one row.
        self.check("SEQ(D1#)", ("failure",), single | result_of("D1", rows=2), "#SHAPE")
        self.check_missing("SEQ(D1#)", ("failure",), single | result_of("D1", rows=1), "columns D1")
        self.check("SEQ(D1#)", ("failure",), single | result_of("D1", 1, 2), "#SHAPE")
        self.check_missing("SEQ(D1#)", ("failure",), single | result_of("D1", 1, 1),
                           "element D1 0 0")
        self.check("SEQ(D1#)", ("rows",), result_of("D1", 1, 1, "single", [[4]]), 4)
        self.check_failure("SEQ(D1#)", result_of("D1", status="blocked"), "#SPILL")


class ArraysTest(EvaluateTestCase):
    def test_transpositions(self):
        self.check_result("TRANSPOSE(B1:C4)", TABLE, [[3, 1, 2, 1], [10, 20, 30, 40]])
        self.check_result("TRANSPOSE(A1)", COLUMN, [[5]])
        self.check_failure("TRANSPOSE(SEQ(0))", {}, "#SIZE")
        self.check_missing("TRANSPOSE(D1#)", ("rows",), {}, "columns D1", "status D1")
        self.check_missing("TRANSPOSE(D1#)", ("columns",), {}, "rows D1", "status D1")
        self.check_missing("TRANSPOSE(D1#)", ("failure",), {}, "status D1")
        self.check_missing("TRANSPOSE(B1:C4)", ("element", 1, 3), {}, "shown C4")

    def test_sorting(self):
        self.check_result("SORT(B1:C4)", TABLE, [[1, 20], [1, 40], [2, 30], [3, 10]])
        self.check_result("SORT(A1:A4)", COLUMN, [[-2], [None], [5], [9]])
        self.check_result("SORT(A1:B3)", shown_below("A1", None, 0, -1) | shown_below("B1", 1, 2, 3),
                          [[-1, 3], [None, 1], [0, 2]])
        self.check_result("SORT(A1:B3)", shown_below("A1", 0, None, 0) | shown_below("B1", 1, 2, 3),
                          [[0, 1], [None, 2], [0, 3]])
        self.check_result("SORT(TRANSPOSE(A1:A4))", COLUMN, [[5, None, -2, 9]])
        # Only the first column must not have error codes.
        self.check_result("SORT(A1:B2)", shown(A1=2, A2=1, B1="#NUM", B2=3), [[1, 3], [2, "#NUM"]])

    def test_sorting_with_error_codes(self):
        self.check_result("SORT(A4:A5)", COLUMN, [["#DIV"], ["#DIV"]])
        answers = shown(A1=2, A2="#REF", A3="#DIV", B1=1, B2=2, B3=3)
        self.check_result("SORT(A1:B3)", answers, [["#REF", "#REF"]] * 3)
        self.check_failure("SORT(SEQ(0))", {}, "#SIZE")

    def test_sorting_with_missing_questions(self):
        self.check_missing("SORT(D1#)", ("rows",), {}, "rows D1", "status D1")
        self.check_missing("SORT(D1#)", ("columns",), {}, "columns D1", "status D1")
        self.check("SORT(A1:B3)", ("rows",), {}, 3)
        self.check("SORT(A1:B3)", ("columns",), {}, 2)
        self.check_missing("SORT(A1:B3)", ("element", 0, 1), {}, "shown A1")
        self.check_missing("SORT(A1:B3)", ("element", 0, 1), shown(A1=3, A2=1), "shown A3")
        self.check_missing("SORT(A1:B3)", ("element", 0, 1), shown(A1=3, A2=1, A3=2), "shown B2")
        self.check_missing("SORT(A1:B3)", ("element", 2, 1), shown(A1=3, A2=1, A3=2), "shown B1")
        self.check("SORT(A1:B3)", ("element", 0, 1), shown(A1=3, A2="#NUM"), "#NUM")

    def test_filters(self):
        self.check_result("FILTER(B1:C4,B1:B4<3)", TABLE, [[1, 20], [2, 30], [1, 40]])
        self.check_result("FILTER(B1:C4,B1:B4=3)", TABLE, [[3, 10]])
        self.check_result("FILTER(B1:C4,A1:A4)", {**TABLE, **COLUMN}, [[3, 10], [2, 30], [1, 40]])
        self.check_result("FILTER(A1:C1,1)", {**TABLE, **COLUMN}, [[5, 3, 10]])
        self.check_result("FILTER(A1,-7)", COLUMN, [[5]])
        self.check_result("FILTER(A1:A5,SEQ(5)=5)", COLUMN, [["#DIV"]])

    def test_filters_that_fail(self):
        self.check_failure("FILTER(B1:C4,B1:B4<0)", TABLE, "#EMPTY")
        self.check_failure("FILTER(B1:C4,A2:A5)", {**TABLE, **COLUMN}, "#DIV")
        self.check_failure("FILTER(B1:C4,B1:B3)", TABLE, "#SHAPE")
        self.check_failure("FILTER(B1:C4,B1:B5)", TABLE, "#SHAPE")
        self.check_failure("FILTER(B1:C4,B1:C4)", TABLE, "#SHAPE")
        self.check_failure("FILTER(B1:C4,1)", TABLE, "#SHAPE")
        self.check_failure("FILTER(A1:C1,0)", TABLE, "#EMPTY")
        self.check_failure("FILTER(A1:C1,A2)", shown(A2=None), "#EMPTY")
        self.check_failure("FILTER(A1:C1,#REF)", {}, "#REF")
        self.check_failure("FILTER(A1:C1,A1:C1)", {}, "#SHAPE")
        self.check_failure("FILTER(SEQ(0),1/0)", {}, "#SIZE")
        self.check_failure("FILTER(A1:A3,SEQ(0))", {}, "#SIZE")
        self.check_failure("FILTER(A1:A2,B1:B2)", shown(B1="#NUM", B2="#REF"), "#NUM")

    def test_filters_with_missing_questions(self):
        self.check("FILTER(A1:C1,D1#)", ("rows",), {}, 1)
        self.check_missing("FILTER(A1:C1,D1#)", ("columns",), {}, "status D1")
        self.check_missing("FILTER(A1:A3,D1#)", ("rows",), {}, "rows D1", "status D1")
        self.check("FILTER(A1:A3,D1#)", ("columns",), {}, 1)
        self.check_missing("FILTER(A1:A3,D1#)", ("failure",), {}, "status D1")
        single = result_of("D1", status="single")
        self.check_missing("FILTER(A1:A3,D1#)", ("failure",), single, "rows D1")
        # The rows alone would tell that the mask has the wrong size.
        self.check_missing("FILTER(A1:A3,D1#)", ("failure",), single | result_of("D1", rows=2),
                           "columns D1")
        self.check_missing("FILTER(D1#,1)", ("rows",), {}, "rows D1", "status D1")
        self.check_missing("FILTER(D1#,1)", ("failure",), {}, "status D1")
        self.check_missing("FILTER(D1#,A1:A3)", ("failure",), single, "rows D1")
        self.check_missing("FILTER(A1:A3,B1:B3)", ("rows",), {}, "shown B1")
        self.check_missing("FILTER(A1:A3,B1:B3)", ("rows",), shown(B1=1, B3=1), "shown B2")
        self.check("FILTER(A1:A3,B1:B3)", ("rows",), shown(B1=1, B2="#NUM"), 1)
        self.check_missing("FILTER(A1:A3,B1:B3)", ("element", 1, 0), shown(B1=1, B2=0, B3=1),
                           "shown A3")

    def test_taking_rows(self):
        self.check_result("TAKE(B1:C4,1)", TABLE, [[3, 10]])
        self.check_result("TAKE(B1:C4,3)", TABLE, [[3, 10], [1, 20], [2, 30]])
        self.check_result("TAKE(A1:A3,9)", COLUMN, [[5], [None], [-2]])
        self.check_result("TAKE(A1:A3,3)", COLUMN, [[5], [None], [-2]])
        self.check_result("TAKE(B1:C4,-1)", TABLE, [[1, 40]])
        self.check_result("TAKE(B1:C4,-3)", TABLE, [[1, 20], [2, 30], [1, 40]])
        self.check_result("TAKE(A1:A3,-3)", COLUMN, [[5], [None], [-2]])
        self.check_result("TAKE(A1:A3,-1000000000)", COLUMN, [[5], [None], [-2]])
        self.check_result("TAKE(A1:C1,-2)", {**TABLE, **COLUMN}, [[5, 3, 10]])
        self.check_result("TAKE(A1,4)", COLUMN, [[5]])

    def test_taking_rows_fails(self):
        for text in ("TAKE(A1:A3,0)", "TAKE(A1,0)", "TAKE(A1:C1,0)"):
            self.check_failure(text, {}, "#SIZE")
        self.check_failure("TAKE(A1:A3,B1)", shown(B1=None), "#SIZE")
        self.check_failure("TAKE(A1:A3,#REF)", {}, "#REF")
        self.check_failure("TAKE(A1:C1,#REF)", {}, "#REF")
        self.check_failure("TAKE(A1:A3,A1:A2)", {}, "#SHAPE")
        self.check_failure("TAKE(FILTER(1,0),#REF)", {}, "#EMPTY")

    def test_taking_rows_with_missing_questions(self):
        self.check_missing("TAKE(D1#,B1)", ("rows",), {}, "rows D1", "status D1")
        self.check_missing("TAKE(D1#,B1)", ("rows",), result_of("D1", status="single"), "rows D1",
                           "shown B1")
        self.check_missing("TAKE(A1:A3,B1)", ("rows",), {}, "shown B1")
        self.check("TAKE(A1:C1,B1)", ("rows",), {}, 1)
        self.check("TAKE(A1:A3,B1)", ("columns",), {}, 1)
        self.check_missing("TAKE(A1:C1,B1)", ("columns",), {}, "shown B1")
        self.check_missing("TAKE(A1:C1,B1)", ("failure",), {}, "shown B1")
        self.check_missing("TAKE(A1:A3,B1)", ("element", 0, 0), {}, "shown B1")
        self.check_missing("TAKE(A1:A3,-2)", ("element", 0, 0), {}, "shown A2")
        # From the front the rows of the array are not needed.
        single = result_of("D1", status="single")
        self.check_missing("TAKE(D1#,1)", ("element", 0, 0), single, "element D1 0 0")
        self.check_missing("TAKE(D1#,-1)", ("element", 0, 0), single, "rows D1")
        self.check_missing("TAKE(D1#,-1)", ("element", 0, 0), single | result_of("D1", rows=5),
                           "element D1 4 0")

    def test_dropping_rows(self):
        self.check_result("DROP(B1:C4,1)", TABLE, [[1, 20], [2, 30], [1, 40]])
        self.check_result("DROP(B1:C4,3)", TABLE, [[1, 40]])
        self.check_result("DROP(B1:C4,-1)", TABLE, [[3, 10], [1, 20], [2, 30]])
        self.check_result("DROP(B1:C4,-3)", TABLE, [[3, 10]])
        self.check_result("DROP(A1:A3,0)", COLUMN, [[5], [None], [-2]])
        self.check_result("DROP(A1,0)", COLUMN, [[5]])
        self.check_result("DROP(A1:A2,A2)", COLUMN, [[5], [None]])

    def test_dropping_rows_fails(self):
        for number in ("3", "-3", "4", "-4", "1000000000"):
            self.check_failure(f"DROP(A1:A3,{number})", {}, "#EMPTY")
            self.check_failure(f"DROP(A1:C1,{number})", {}, "#EMPTY")
        self.check_failure("DROP(A1:A3,#REF)", {}, "#REF")
        self.check_failure("DROP(A1:C1,#REF)", {}, "#REF")
        self.check_failure("DROP(SEQ(0),#REF)", {}, "#SIZE")

    def test_dropping_rows_with_missing_questions(self):
        self.check_missing("DROP(D1#,B1)", ("rows",), {}, "rows D1", "status D1")
        self.check_missing("DROP(A1:A3,B1)", ("rows",), {}, "shown B1")
        self.check("DROP(A1:C1,B1)", ("rows",), {}, 1)
        self.check_missing("DROP(D1#,B1)", ("failure",), {}, "status D1")
        single = result_of("D1", status="single")
        self.check_missing("DROP(D1#,B1)", ("failure",), single, "shown B1")
        self.check("DROP(D1#,B1)", ("failure",), single | shown(B1="#NUM"), "#NUM")
        self.check_missing("DROP(D1#,B1)", ("failure",), single | shown(B1=0), "rows D1")
        self.check_missing("DROP(A1:A3,B1)", ("element", 0, 0), shown(B1=2), "shown A3")
        self.check_missing("DROP(A1:A3,B1)", ("element", 0, 0), shown(B1=-2), "shown A1")

    def test_stacks(self):
        self.check_result("STACK(B1:C2,B4:C4)", TABLE, [[3, 10], [1, 20], [1, 40]])
        self.check_result("STACK(A1,A2:A3)", COLUMN, [[5], [None], [-2]])
        self.check_result("STACK(1,2)", {}, [[1], [2]])
        self.check_result("STACK(SEQ(6),SEQ(6))", {}, [[n] for n in list(range(1, 7)) * 2])
        self.check_result("STACK(SEQ(11),A5)", COLUMN, [[n] for n in range(1, 12)] + [["#DIV"]])

    def test_stacks_that_fail(self):
        self.check_failure("STACK(SEQ(7),SEQ(6))", {}, "#SIZE")
        self.check_failure("STACK(SEQ(12),1)", {}, "#SIZE")
        self.check_failure("STACK(SEQ(1,2),1)", {}, "#SHAPE")
        self.check_failure("STACK(1,SEQ(1,2))", {}, "#SHAPE")
        self.check_failure("STACK(SEQ(12,2),SEQ(12))", {}, "#SHAPE")
        self.check_failure("STACK(SEQ(0),FILTER(1,0))", {}, "#SIZE")
        self.check_failure("STACK(SEQ(2,2),FILTER(1,0))", {}, "#EMPTY")

    def test_stacks_with_missing_questions(self):
        self.check_missing("STACK(D1#,D2#)", ("rows",), {}, "rows D1", "status D1")
        self.check_missing("STACK(D1#,D2#)", ("rows",), result_of("D1", 2, 1, "spilled"), "rows D2",
                           "status D2")
        self.check_missing("STACK(D1#,D2#)", ("failure",), {}, "status D1")
        one = result_of("D1", status="single")
        self.check_missing("STACK(D1#,D2#)", ("failure",), one, "status D2")
        two = one | result_of("D2", status="single")
        self.check_missing("STACK(D1#,D2#)", ("failure",), two, "columns D1")
        self.check_missing("STACK(D1#,D2#)", ("failure",), two | result_of("D1", columns=1),
                           "columns D2")
        self.check("STACK(D1#,D2#)", ("failure",),
                   two | result_of("D1", columns=1) | result_of("D2", columns=2), "#SHAPE")
        three = two | result_of("D1", columns=1) | result_of("D2", columns=1)
        self.check_missing("STACK(D1#,D2#)", ("failure",), three, "rows D1")
        self.check_missing("STACK(D1#,D2#)", ("failure",), three | result_of("D1", rows=12),
                           "rows D2")
        self.check_missing("STACK(A1:A2,B1:B2)", ("element", 1, 0), {}, "shown A2")
        self.check_missing("STACK(A1:A2,B1:B2)", ("element", 3, 0), {}, "shown B2")

    def test_arrays_side_by_side(self):
        self.check_result("BESIDE(B1:C2,A1:A2)", {**TABLE, **COLUMN}, [[3, 10, 5], [1, 20, None]])
        self.check_result("BESIDE(1,2)", {}, [[1, 2]])
        self.check_result("BESIDE(A1:A2,B1:C2)", {**TABLE, **COLUMN}, [[5, 3, 10], [None, 1, 20]])
        self.check_result("BESIDE(SEQ(1,6),SEQ(1,6))", {}, [list(range(1, 7)) * 2])

    def test_arrays_side_by_side_fail(self):
        self.check_failure("BESIDE(SEQ(1,7),SEQ(1,6))", {}, "#SIZE")
        self.check_failure("BESIDE(SEQ(2),1)", {}, "#SHAPE")
        self.check_failure("BESIDE(1,SEQ(2))", {}, "#SHAPE")
        self.check_failure("BESIDE(SEQ(2,12),SEQ(1,12))", {}, "#SHAPE")
        self.check_failure("BESIDE(SEQ(0),FILTER(1,0))", {}, "#SIZE")
        self.check_failure("BESIDE(SEQ(2,2),FILTER(1,0))", {}, "#EMPTY")

    def test_arrays_side_by_side_with_missing_questions(self):
        self.check_missing("BESIDE(D1#,D2#)", ("columns",), {}, "columns D1", "status D1")
        self.check_missing("BESIDE(D1#,D2#)", ("rows",), {}, "rows D1", "status D1")
        two = result_of("D1", status="single") | result_of("D2", status="single")
        self.check_missing("BESIDE(D1#,D2#)", ("failure",), two, "rows D1")
        self.check_missing("BESIDE(D1#,D2#)", ("failure",), two | result_of("D1", rows=1), "rows D2")
        three = two | result_of("D1", rows=1) | result_of("D2", rows=1)
        self.check_missing("BESIDE(D1#,D2#)", ("failure",), three, "columns D1")
        self.check_missing("BESIDE(D1#,D2#)", ("failure",), three | result_of("D1", columns=12),
                           "columns D2")
        self.check_missing("BESIDE(A1:B2,C1:C2)", ("element", 1, 1), {}, "shown B2")
        self.check_missing("BESIDE(A1:B2,C1:C2)", ("element", 1, 2), {}, "shown C2")


class ChoicesTest(EvaluateTestCase):
    def test_conditions(self):
        for condition in ("1", "-1", "A1<6", "1000000000"):
            self.check_result(f"IF({condition},SEQ(2),SEQ(1,3))", COLUMN, [[1], [2]])
        for condition in ("0", "A1<5", "A2"):
            self.check_result(f"IF({condition},SEQ(2),SEQ(1,3))", COLUMN, [[1, 2, 3]])
        self.check_result("IF(1,A2,7)", COLUMN, [[None]])
        self.check_result("IF(1,A5,7)", COLUMN, [["#DIV"]])

    def test_conditions_that_fail(self):
        for code_text, code in [("#REF", "#REF"), ("1/0", "#DIV"), ("A1:A2", "#SHAPE"),
                                ("A1:B1", "#SHAPE"), ("SEQ(0)", "#SIZE")]:
            self.check_failure(f"IF({code_text},SEQ(2),SEQ(1,3))", {}, code)
            self.check_failure(f"IF({code_text},SEQ(2,3),SEQ(2,3))", {}, code)
            self.check_failure(f"IF({code_text},1,2)", {}, code)
        self.check_failure("IF(1,SEQ(0),SEQ(3))", {}, "#SIZE")
        self.check_failure("IF(0,SEQ(2),FILTER(1,0))", {}, "#EMPTY")
        self.check_result("IF(1,SEQ(2),FILTER(1,0))", {}, [[1], [2]])

    def test_equal_sizes_need_no_condition(self):
        self.check("IF(A1,1,2)", ("rows",), {}, 1)
        self.check("IF(A1,B1,C1)", ("columns",), {}, 1)
        # But if they are more than 1, the condition may still be a failure.
        self.check_missing("IF(A1,SEQ(3),B1:B3)", ("rows",), {}, "shown A1")
        self.check("IF(A1,SEQ(3),B1:B3)", ("rows",), shown(A1=4), 3)
        self.check("IF(A1,SEQ(3),B1:B3)", ("rows",), shown(A1="#NUM"), 1)
        self.check("IF(A1,SEQ(2,3),B1:D1)", ("rows",), shown(A1=0), 1)
        self.check("IF(A1,SEQ(2,3),B1:D1)", ("columns",), shown(A1=0), 3)

    def test_missing_questions_of_conditions(self):
        text = "IF(A1,SEQ(B1),SEQ(C1))"
        self.check_missing(text, ("rows",), {}, "shown B1", "shown C1", "shown A1")
        self.check_missing(text, ("rows",), shown(B1=2), "shown C1", "shown A1")
        self.check_missing(text, ("rows",), shown(C1=2), "shown B1", "shown A1")
        self.check_missing(text, ("rows",), shown(B1=2, C1=3), "shown A1")
        self.check_missing(text, ("rows",), shown(A1=1), "shown B1")
        self.check_missing(text, ("rows",), shown(A1=1, C1=3), "shown B1")
        self.check_missing(text, ("rows",), shown(A1=0), "shown C1")
        self.check("IF(A1,SEQ(B1),SEQ(C1))", ("rows",), shown(A1=1, B1=2), 2)
        self.check(text, ("rows",), shown(A1="#NUM"), 1)
        self.check(text, ("rows",), shown(B1=1, C1=1), 1)
        self.check(text, ("columns",), {}, 1)
        self.check_missing(text, ("failure",), {}, "shown A1")
        self.check_missing(text, ("failure",), shown(A1=1), "shown B1")
        self.check_missing(text, ("element", 0, 0), shown(A1=0), "shown C1")
        self.check_missing("IF(A1,B1,C1)", ("element", 0, 0), shown(A1=1), "shown B1")
        self.check_missing("IF(A1,B1,C1)", ("element", 0, 0), shown(A1=0), "shown C1")

    def test_missing_questions_stand_there_once(self):
        self.check_missing("IF(A1,SEQ(A1),SEQ(B1))", ("rows",), {}, "shown A1", "shown B1")
        self.check_missing("IF(B1,SEQ(A1),SEQ(B1))", ("rows",), {}, "shown A1", "shown B1")
        self.check_missing("IF(D1#,D1#,D2#)", ("rows",), {}, "rows D1", "status D1", "rows D2",
                           "status D2")
        self.check_missing("IF(A1,D1#,SEQ(A1))", ("rows",), {}, "rows D1", "status D1", "shown A1")
        self.check_missing("IF(A1,SEQ(1,B1),SEQ(1,C1))", ("columns",), {}, "shown B1", "shown C1",
                           "shown A1")

    def test_replacements(self):
        self.check_result("IFERROR(A1:A5,0)", COLUMN, [[5], [None], [-2], [9], ["#DIV"]])
        self.check_result("IFERROR(A1,7)", COLUMN, [[5]])
        self.check_result("IFERROR(A2,7)", COLUMN, [[None]])
        self.check_result("IFERROR(A5,7)", COLUMN, [[7]])
        self.check_result("IFERROR(A5,SEQ(1,3))", COLUMN, [[1, 2, 3]])
        self.check_result("IFERROR(SEQ(0),SEQ(2))", {}, [[1], [2]])
        self.check_result("IFERROR(SEQ(2),SEQ(0))", {}, [[1], [2]])
        self.check_result("IFERROR(A5:B5,3)", shown(A5="#DIV", B5=1), [["#DIV", 1]])
        self.check_result("IFERROR(1/0,#REF)", {}, [["#REF"]])
        self.check_failure("IFERROR(1/0,SEQ(0))", {}, "#SIZE")
        self.check_failure("IFERROR(FILTER(1,0),SEQ(0))", {}, "#SIZE")

    def test_missing_questions_of_replacements(self):
        self.check("IFERROR(A1,B1)", ("rows",), {}, 1)
        self.check("IFERROR(A1,B1)", ("columns",), {}, 1)
        self.check_missing("IFERROR(A1,B1)", ("failure",), {}, "shown A1")
        self.check_missing("IFERROR(A1,B1)", ("element", 0, 0), {}, "shown A1")
        self.check_missing("IFERROR(A1,B1)", ("element", 0, 0), shown(A1="#NUM"), "shown B1")
        self.check("IFERROR(A1,B1)", ("element", 0, 0), shown(A1=3), 3)
        self.check_missing("IFERROR(A1,SEQ(B1))", ("rows",), {}, "shown B1", "shown A1")
        self.check_missing("IFERROR(A1,SEQ(B1))", ("rows",), shown(B1=2), "shown A1")
        self.check("IFERROR(A1,SEQ(B1))", ("rows",), shown(A1=2), 1)
        self.check_missing("IFERROR(A1,SEQ(B1))", ("rows",), shown(A1="#NUM"), "shown B1")
        self.check("IFERROR(A1,SEQ(B1))", ("rows",), shown(A1="#NUM", B1=4), 4)
        self.check_missing("IFERROR(SEQ(A1),SEQ(B1))", ("rows",), {}, "shown A1", "shown B1")
        self.check("IFERROR(A1:A2,SEQ(B1))", ("rows",), {}, 2)
        self.check_missing("IFERROR(D1#,D2#)", ("rows",), {}, "rows D1", "status D1", "rows D2",
                           "status D2")
        self.check_missing("IFERROR(D1#,1)", ("rows",), result_of("D1", status="single"), "rows D1")
        # More than one row settles the choice; the columns are asked if there is one row.
        self.check("IFERROR(D1#,D2#)", ("failure",), result_of("D1", status="single", rows=2), None)
        self.check_missing("IFERROR(D1#,D2#)", ("failure",),
                           result_of("D1", status="single", rows=1), "columns D1")
        self.check_missing("IFERROR(D1#,D2#)", ("failure",), result_of("D1", 1, 1, "single"),
                           "element D1 0 0")
        self.check("IFERROR(D1#,D2#)", ("failure",), result_of("D1", 1, 2, "single"), None)
        self.check_missing("IFERROR(D1#,D2#)", ("failure",), result_of("D1", status="blocked"),
                           "status D2")


class FailureBeforePlainPartsTest(EvaluateTestCase):
    """Point 12, where questions are missing for one of the two."""

    def test_an_error_code_makes_up_for_missing_plain_rows(self):
        self.check("D1#+SEQ(0)", ("rows",), result_of("D1", status="single"), 1)
        self.check("D1#+SEQ(0)", ("columns",), result_of("D1", status="single"), 1)
        self.check("TAKE(D1#,0)", ("rows",), result_of("D1", status="spilled"), 1)
        self.check_missing("D1#+SEQ(0)", ("rows",), {}, "rows D1", "status D1")

    def test_no_failure_leaves_the_plain_rows_missing(self):
        self.check_missing("-D1#", ("rows",), result_of("D1", status="single"), "rows D1")

    def test_both_missing(self):
        self.check_missing("SEQ(A1,B1)", ("columns",), {}, "shown B1", "shown A1")
        self.check_missing("SEQ(A1,A1)", ("columns",), {}, "shown A1")

    def test_the_failure_comes_before_the_element(self):
        self.check("A1:A2+SEQ(0)", ("element", 0, 0), {}, "#SIZE")
        self.check_missing("A1:A2+SEQ(B1)", ("element", 0, 0), {}, "shown B1")


class DeepExpressionsTest(EvaluateTestCase):
    """Depth 12, where naive evaluation would take very long."""

    def test_deep_expressions_in_reasonable_time(self):
        big = (12, 12, {})
        full = {("shown", (row, column)): (7 * row + 3 * column) % 11 + 1
                for row in range(12) for column in range(12)}
        one = ("number", 1)
        ways = [
            lambda e: ("negate", e),
            lambda e: ("binary", "-", e, one),
            lambda e: ("binary", "<", e, e),
            lambda e: ("call", "SORT", (e,)),
            lambda e: ("call", "TRANSPOSE", (e,)),
            lambda e: ("call", "IFERROR", (e, one)),
            lambda e: ("call", "IFERROR", (e, e)),
            lambda e: ("call", "IF", (one, e, one)),
            lambda e: ("call", "IF", (("cell", 1, 1), e, ("negate", one))),
            lambda e: ("call", "FILTER", (e, e)),
            lambda e: ("call", "TAKE", (e, e)),
            lambda e: ("call", "DROP", (e, ("number", 0))),
            lambda e: ("call", "STACK", (e, e)),
            lambda e: ("call", "BESIDE", (e, one)),
            lambda e: ("call", "INDEX", (e, one, one)),
            lambda e: ("call", "SEQ", (e, e)),
            lambda e: ("call", "SUM", (e,)),
        ]
        started = time.perf_counter()
        for core in (("range", 0, 0, 11, 11), ("range", 0, 0, 11, 0), ("cell", 3, 3), one):
            for wrap in ways:
                expression = nested(11, wrap, core)
                for answers in ({}, full):
                    for part in (("rows",), ("columns",), ("failure",), ("element", 0, 0)):
                        evaluate(expression, part, big, answers)
        self.assertLess(time.perf_counter() - started, 60)

    def test_no_answer_is_looked_up_again_and_again(self):
        one, two = ("number", 1), ("number", 2)
        spill, cell = ("spill", 0, 3), ("cell", 0, 0)
        ways = [
            lambda e: ("call", "IF", (one, e, ("negate", e))),
            lambda e: ("call", "IFERROR", (e, ("negate", e))),
            lambda e: ("call", "FILTER", (e, ("negate", e))),
            lambda e: ("call", "STACK", (("call", "TAKE", (e, one)), ("call", "TAKE", (e, two)))),
            lambda e: ("binary", "+", e, ("call", "SORT", (e,))),
            lambda e: ("call", "TAKE", (e, ("call", "ROWS", (e,)))),
        ]
        for core in (spill, cell):
            for answers in ({}, result_of("D1", status="single"), result_of("D1", 2, 1, "spilled"),
                            result_of("D1", 2, 1, "spilled", [[1], [2]]) | shown(A1=1)):
                for wrap in ways:
                    expression = nested(5, wrap, core)
                    if depth_of(nested(11, wrap, core)) == 12:
                        expression = nested(11, wrap, core)
                    for part in (("rows",), ("columns",), ("failure",), ("element", 0, 0)):
                        counting = CountingDict(answers)
                        evaluate(expression, part, SHEET, counting)
                        self.assertLess(counting.count, 300, msg=(expression[:2], core, part))

    def test_values_of_deep_expressions(self):
        self.check_result(nested(11, lambda e: ("negate", e), ("cell", 0, 0)), COLUMN, [[-5]])
        self.check_result(nested(11, lambda e: ("binary", "+", e, e), ("number", 1)), {}, [[2048]])
        self.check_result(nested(11, lambda e: ("call", "SORT", (e,)), ("range", 0, 0, 3, 0)),
                          COLUMN, [[-2], [None], [5], [9]])
        self.check_result(nested(11, lambda e: ("call", "TRANSPOSE", (e,)), ("range", 0, 0, 3, 0)),
                          COLUMN, [[5, None, -2, 9]])
        self.check_result(nested(11, lambda e: ("call", "STACK", (e, ("number", 2))), ("number", 1)),
                          {}, [[1]] + [[2]] * 11)

    def test_somewhat_beyond_the_greatest_depth(self):
        self.check_result(nested(16, lambda e: ("negate", e), ("cell", 0, 0)), COLUMN, [[5]])


if __name__ == "__main__":
    unittest.main()
