"""Questions and rules in spillsheet.rules."""

import copy
import unittest

from spillsheet.grid import parse_cell
from spillsheet.parser import parse
from spillsheet.rules import apply_rule, questions_of
from tests.answers import asked, result_of, shown

CODES = ["#DIV", "#EMPTY", "#NUM", "#REF", "#SHAPE", "#SIZE", "#SPILL"]


def sheet_of(rows, columns, **contents):
    """A sheet whose contents are numbers and the texts of formulas."""
    return (rows, columns, {
        parse_cell(name): parse(content) if isinstance(content, str) else content
        for name, content in contents.items()
    })


class QuestionsOfTest(unittest.TestCase):
    def check(self, sheet, answers, expected):
        before = copy.deepcopy((sheet, answers))
        questions = questions_of(sheet, answers)
        self.assertEqual(questions, expected)
        self.assertEqual(questions, sorted(questions))
        self.assertIs(type(questions), list)
        self.assertEqual((sheet, answers), before)
        questions.append("changed")
        self.assertEqual(questions_of(answers=answers, sheet=sheet), expected)

    def test_the_example_of_the_document(self):
        self.check((1, 2, {(0, 0): parse("B1")}), {}, [
            ("columns", (0, 0)), ("rows", (0, 0)), ("shown", (0, 0)), ("shown", (0, 1)),
            ("status", (0, 0)),
        ])

    def test_without_formulas(self):
        self.check((1, 1, {}), {}, [("shown", (0, 0))])
        self.check(sheet_of(2, 2, A1=5), shown(A1=5),
                   asked("shown A1", "shown B1", "shown A2", "shown B2"))
        self.assertEqual(len(questions_of((12, 12, {}), {})), 144)

    def test_elements_only_with_rows_and_columns(self):
        sheet = sheet_of(1, 1, A1="A1")
        few = asked("columns A1", "rows A1", "shown A1", "status A1")
        for answers in [
            {}, result_of("A1", rows=2), result_of("A1", columns=2), result_of("A1", status="single"),
            result_of("A1", rows=3, status="blocked", listed=[[1, 2]]), shown(A1=3),
        ]:
            self.check(sheet, answers, few)
        self.check(sheet, result_of("A1", 2, 3), asked(
            "columns A1", "element A1 0 0", "element A1 0 1", "element A1 0 2", "element A1 1 0",
            "element A1 1 1", "element A1 1 2", "rows A1", "shown A1", "status A1"))
        self.check(sheet, result_of("A1", 1, 1, "single", [[5]]) | shown(A1=5), asked(
            "columns A1", "element A1 0 0", "rows A1", "shown A1", "status A1"))

    def test_several_formulas(self):
        sheet = sheet_of(2, 2, B1="A1", A2="B1", B2=4)
        self.check(sheet, result_of("A2", 1, 2) | result_of("B1", rows=4), asked(
            "columns B1", "columns A2", "element A2 0 0", "element A2 0 1", "rows B1", "rows A2",
            "shown A1", "shown B1", "shown A2", "shown B2", "status B1", "status A2"))

    def test_answers_to_other_questions_do_not_matter(self):
        sheet = sheet_of(1, 2, A1=3)
        self.check(sheet, result_of("B1", 2, 2, "spilled") | result_of("A1", 3, 3),
                   asked("shown A1", "shown B1"))


class RuleTestCase(unittest.TestCase):
    def check(self, sheet, answers, question, expected):
        outcome = self.applied(sheet, answers, question)
        self.assertEqual(outcome, ("answer", expected), msg=question)
        self.assertIs(type(outcome[1]), type(expected))

    def check_missing(self, sheet, answers, question, *words):
        outcome = self.applied(sheet, answers, question)
        self.assertEqual(outcome, ("missing", asked(*words)), msg=question)
        outcome[1].append("changed")
        self.assertEqual(self.applied(sheet, answers, question), ("missing", asked(*words)))

    def applied(self, sheet, answers, question):
        question = asked(question)[0]
        before = copy.deepcopy((sheet, answers, question))
        outcome = apply_rule(sheet, answers, question)
        self.assertEqual((sheet, answers, question), before)
        self.assertIs(type(outcome), tuple)
        return outcome


class PartsOfFormulasTest(RuleTestCase):
    def test_rows_columns_and_elements_are_those_of_the_expression(self):
        sheet = sheet_of(4, 4, A1="SEQ(2,B3)", C1="IF(B3,A1#,7)")
        self.check_missing(sheet, {}, "rows A1", "shown B3")
        self.check(sheet, shown(B3=3), "rows A1", 2)
        self.check(sheet, shown(B3=3), "columns A1", 3)
        self.check(sheet, shown(B3=3), "element A1 1 2", 6)
        self.check(sheet, shown(B3="#NUM"), "rows A1", 1)
        self.check(sheet, shown(B3="#NUM"), "element A1 0 0", "#NUM")
        self.check_missing(sheet, {}, "element A1 0 0", "shown B3")
        self.check_missing(sheet, {}, "rows C1", "rows A1", "status A1", "shown B3")
        self.check_missing(sheet, shown(B3=1), "rows C1", "rows A1", "status A1")
        self.check(sheet, shown(B3=0), "rows C1", 1)
        self.check(sheet, shown(B3=0), "element C1 0 0", 7)
        self.check_missing(sheet, shown(B3=1) | result_of("A1", 1, 1, "single"), "element C1 0 0",
                           "element A1 0 0")

    def test_elements_that_only_more_answers_make_a_part_of_the_result(self):
        sheet = sheet_of(4, 4, A1="SEQ(B3,C3)", A2="B3:C4+D1#", D1="A4")
        self.check_missing(sheet, {}, "element A1 2 2", "shown B3")
        self.check_missing(sheet, {}, "element A2 1 1", "status D1")

    def test_answers_may_be_wrong(self):
        sheet = sheet_of(3, 3, A1="5", C3="A1#")
        wrong = result_of("A1", 2, 2, "blocked", [[7, 8], [9, 10]]) | shown(A1="#NUM")
        self.check(sheet, wrong, "rows A1", 1)
        self.check(sheet, wrong, "element A1 0 0", 5)
        self.check(sheet, wrong, "status A1", "spilled")
        self.check(sheet, wrong, "shown A1", "#SPILL")
        self.check(sheet, wrong, "rows C3", 1)
        right = result_of("A1", 2, 2, "spilled", [[7, 8], [9, 10]])
        self.check(sheet, right, "element C3 1 1", 10)

    def test_arguments_by_name(self):
        outcome = apply_rule(question=("rows", (0, 0)), answers={}, sheet=(1, 1, {(0, 0): parse("7")}))
        self.assertEqual(outcome, ("answer", 1))


class StatusTest(RuleTestCase):
    def test_the_example_of_the_document(self):
        sheet = sheet_of(3, 3, B1="SEQ(1+C2)", A2="SEQ(1,3)")
        answers = {("columns", (0, 1)): 1, ("rows", (1, 0)): 1, ("columns", (1, 0)): 3}
        self.assertEqual(apply_rule(sheet, answers, ("status", (1, 0))),
                         ("missing", [("rows", (0, 1)), ("status", (0, 1))]))

    def test_rows_are_missing_before_columns(self):
        sheet = sheet_of(3, 3, B2="A1")
        self.check_missing(sheet, {}, "status B2", "rows B2")
        self.check_missing(sheet, result_of("B2", columns=2), "status B2", "rows B2")
        self.check_missing(sheet, result_of("B2", rows=2), "status B2", "columns B2")
        # Even if the rows alone already reach beyond the grid.
        self.check_missing(sheet, result_of("B2", rows=9), "status B2", "columns B2")

    def test_single(self):
        crowded = sheet_of(1, 1, A1="A1")
        self.check(crowded, result_of("A1", 1, 1), "status A1", "single")
        around = sheet_of(3, 3, A1=1, B1="A1", C1="A1", A2=1, B2="A1", C2=2, A3=1, B3=2, C3="A1")
        self.check(around, result_of("B2", 1, 1), "status B2", "single")

    def test_the_edges_of_the_grid(self):
        sheet = sheet_of(4, 5, C2="A1")
        for rows in range(1, 5):
            for columns in range(1, 5):
                status = "spilled" if rows <= 3 and columns <= 3 else "blocked"
                if rows == columns == 1:
                    status = "single"
                self.check(sheet, result_of("C2", rows, columns), "status C2", status)
        self.check(sheet_of(12, 12, A1="A1"), result_of("A1", 12, 12), "status A1", "spilled")
        self.check(sheet_of(12, 12, B1="A1"), result_of("B1", 1, 12), "status B1", "blocked")
        self.check(sheet_of(11, 12, A1="A1"), result_of("A1", 12, 1), "status A1", "blocked")

    def test_content_in_the_area(self):
        for name in ("C2", "D2", "B3", "C3", "D3", "B4", "D4"):
            for content in (0, 5, "A1"):
                sheet = sheet_of(5, 5, B2="A1", **{name: content})
                self.check(sheet, result_of("B2", 3, 3), "status B2", "blocked")
                # The other formula blocks it whatever is known of it.
                self.check(sheet, result_of("B2", 3, 3) | result_of(name, 1, 1, "single"),
                           "status B2", "blocked")

    def test_content_beside_the_area(self):
        for name in ("A1", "A2", "A3", "B1", "A4", "B4", "C4", "D4", "E2", "E3"):
            sheet = sheet_of(5, 5, B2="A1", **{name: 5})
            self.check(sheet, result_of("B2", 2, 3), "status B2", "spilled")

    def test_a_formula_above_and_to_the_right(self):
        sheet = sheet_of(4, 4, C1="A1", A3="A1")
        base = result_of("A3", 1, 3)
        for answers, expected in [
            (result_of("C1", 3, 1, "spilled"), "blocked"),
            (result_of("C1", 4, 2, "spilled"), "blocked"),
            (result_of("C1", 2, 1, "spilled"), "spilled"),
            (result_of("C1", 4, 4, "blocked"), "spilled"),
            (result_of("C1", status="blocked"), "spilled"),
            (result_of("C1", 1, 1, "single"), "spilled"),
            (result_of("C1", status="single"), "spilled"),
            (result_of("C1", rows=2), "spilled"),
            (result_of("C1", rows=1, columns=4), "spilled"),
            # The rows are enough to be out of the way only if they do not reach the row.
            (result_of("C1", 3, 1, "single"), "spilled"),
        ]:
            self.check(sheet, base | answers, "status A3", expected)
        self.check_missing(sheet, base, "status A3", "rows C1", "status C1")
        self.check_missing(sheet, base | result_of("C1", columns=2), "status A3", "rows C1",
                           "status C1")
        self.check_missing(sheet, base | result_of("C1", rows=3), "status A3", "status C1")
        self.check_missing(sheet, base | result_of("C1", 3, 1), "status A3", "status C1")

    def test_formulas_that_do_not_matter(self):
        spilled = result_of("A3", 2, 3)
        for name in ("A1", "A2", "D1", "D2", "D3", "A5", "B5"):
            sheet = sheet_of(5, 5, A3="A1", **{name: "A1"})
            self.check(sheet, spilled, "status A3", "spilled")

    def test_formulas_that_cannot_reach_the_row(self):
        base = result_of("A4", 1, 3)
        for name in ("C2", "C3"):
            for content in (5, "A1"):
                sheet = sheet_of(4, 4, C1="A1", A4="A1", **{name: content})
                answers = base | result_of("C1", 4, 1, "spilled") | result_of(name, status="blocked")
                self.check(sheet, answers, "status A4", "spilled")
        sheet = sheet_of(4, 4, C1="A1", A4="A1", B2=5, D2=5, B3=7)
        self.check(sheet, base | result_of("C1", 4, 1, "spilled"), "status A4", "blocked")

    def test_the_nearest_formula_in_each_column_counts(self):
        sheet = sheet_of(4, 4, C1="A1", C3="A1", A4="A1")
        self.check_missing(sheet, result_of("A4", 1, 3), "status A4", "rows C3", "status C3")

    def test_waiting_for_several_formulas_in_reading_order(self):
        sheet = sheet_of(5, 5, D1="A1", B2="A1", E2="A1", C3="A1", A4="A1")
        base = result_of("A4", 1, 5)
        self.check_missing(sheet, base, "status A4", "rows D1", "status D1", "rows B2", "status B2",
                           "rows E2", "status E2", "rows C3", "status C3")
        some = base | result_of("B2", rows=3) | result_of("E2", rows=2) | result_of("D1", rows=1)
        self.check_missing(sheet, some, "status A4", "status B2", "rows C3", "status C3")
        # One that takes the room is enough, wherever it stands.
        for name in ("D1", "B2", "E2", "C3"):
            self.check(sheet, base | result_of(name, 4, 1, "spilled"), "status A4", "blocked")
        # Those to the right of the area do not matter.
        self.check_missing(sheet, result_of("A4", 1, 3), "status A4", "rows B2", "status B2",
                           "rows C3", "status C3")
        self.check_missing(sheet, result_of("A4", 2, 2), "status A4", "rows B2", "status B2")
        self.check(sheet, result_of("A4", 2, 1), "status A4", "spilled")

    def test_content_comes_before_formulas_in_the_way(self):
        sheet = sheet_of(4, 4, C1="A1", A3="A1", B3=5)
        self.check(sheet, result_of("A3", 1, 3), "status A3", "blocked")
        self.check(sheet_of(4, 4, C1="A1", A3="A1"), result_of("A3", 3, 3), "status A3", "blocked")


class ShownTest(RuleTestCase):
    def test_numbers(self):
        for n in (0, 7, -3, 10 ** 9):
            sheet = sheet_of(2, 2, A1="A1", B2=n)
            self.check(sheet, {}, "shown B2", n)
            self.check(sheet, result_of("A1", 2, 2, "spilled", [[1, 2], [3, 4]]), "shown B2", n)

    def test_formulas(self):
        sheet = sheet_of(2, 2, A1="A1")
        self.check_missing(sheet, {}, "shown A1", "status A1")
        self.check_missing(sheet, result_of("A1", 1, 1, None, [[5]]), "shown A1", "status A1")
        self.check(sheet, result_of("A1", status="blocked"), "shown A1", "#SPILL")
        self.check(sheet, result_of("A1", 2, 2, "blocked", [[5]]), "shown A1", "#SPILL")
        for status in ("single", "spilled"):
            answers = result_of("A1", 1, 2, status)
            self.check_missing(sheet, answers, "shown A1", "element A1 0 0")
            for scalar in [0, 5, None] + CODES:
                self.check(sheet, answers | result_of("A1", listed=[[scalar]]), "shown A1", scalar)

    def test_empty_cells_without_formulas(self):
        self.check(sheet_of(2, 2, A1=5), {}, "shown B2", None)
        self.check((1, 1, {}), {}, "shown A1", None)

    def test_covered_cells(self):
        sheet = sheet_of(4, 4, B2="A1")
        answers = result_of("B2", 2, 3, "spilled", [[1, None, 3], [4, "#NUM", 6]])
        for name, scalar in [("B2", 1), ("C2", None), ("D2", 3), ("B3", 4), ("C3", "#NUM"),
                             ("D3", 6), ("A1", None), ("A2", None), ("A3", None), ("B1", None),
                             ("B4", None), ("C4", None), ("D4", None), ("A4", None)]:
            self.check(sheet, answers, "shown " + name, scalar)

    def test_the_element_of_a_covered_cell_is_the_one_missing_question(self):
        sheet = sheet_of(4, 4, B2="A1", D1="A1")
        answers = result_of("B2", 2, 3, "spilled")
        self.check_missing(sheet, answers, "shown D3", "element B2 1 2")
        self.check_missing(sheet, answers, "shown C2", "element B2 0 1")

    def test_formulas_out_of_the_way(self):
        sheet = sheet_of(4, 4, B2="A1")
        for answers in [
            result_of("B2", status="single"), result_of("B2", status="blocked"),
            result_of("B2", 3, 3, "blocked"), result_of("B2", 1, 1, "single"),
            result_of("B2", rows=1), result_of("B2", columns=1), result_of("B2", 1, 3),
            result_of("B2", 3, 1, "spilled"), result_of("B2", 1, 3, "spilled"),
        ]:
            self.check(sheet, answers, "shown C3", None)
        self.check(sheet, result_of("B2", rows=2), "shown D4", None)
        self.check(sheet, result_of("B2", columns=2), "shown D4", None)

    def test_waiting_for_a_formula(self):
        sheet = sheet_of(4, 4, B2="A1")
        self.check_missing(sheet, {}, "shown C3", "rows B2", "columns B2", "status B2")
        self.check_missing(sheet, result_of("B2", rows=2), "shown C3", "columns B2", "status B2")
        self.check_missing(sheet, result_of("B2", columns=2), "shown C3", "rows B2", "status B2")
        self.check_missing(sheet, result_of("B2", 2, 2), "shown C3", "status B2")
        self.check_missing(sheet, result_of("B2", 12, 12), "shown D4", "status B2")
        self.check_missing(sheet, result_of("B2", 1, 12), "shown D2", "status B2")

    def test_formulas_that_cannot_reach_the_cell(self):
        for name in ("A4", "D1", "B4", "D2", "C4", "D3"):
            sheet = sheet_of(4, 4, **{name: "A1"})
            self.check(sheet, {}, "shown C3", None)
        for name in ("B1", "C1", "A2", "B2", "C2", "A3", "B3"):
            for content in (5, "A1"):
                sheet = sheet_of(4, 4, A1="A1", **{name: content})
                answers = result_of("A1", 4, 4, "spilled") | result_of(name, status="single")
                self.check(sheet, answers, "shown C3", None)
        for name in ("D1", "D2", "D3", "A4", "B4", "C4"):
            sheet = sheet_of(4, 4, A1="A1", **{name: 5})
            answers = result_of("A1", 3, 3, "spilled", [[1, 2, 3], [4, 5, 6], [7, 8, 9]])
            self.check(sheet, answers, "shown C3", 9)

    def test_waiting_for_several_formulas_in_reading_order(self):
        sheet = sheet_of(4, 4, C1="A1", B2="A1", A3="A1")
        words = [f"{kind} {name}" for name in ("C1", "B2", "A3")
                 for kind in ("rows", "columns", "status")]
        self.check_missing(sheet, {}, "shown C3", *words)
        some = result_of("B2", columns=1) | result_of("C1", rows=3) | result_of("A3", 1, 3)
        self.check_missing(sheet, some, "shown C3", "columns C1", "status C1", "status A3")
        # A formula that covers the cell is enough, the others may still be unknown.
        for name, i, j in [("C1", 2, 0), ("B2", 1, 1), ("A3", 0, 2)]:
            answers = result_of(name, 3, 3, "spilled")
            answers["element", parse_cell(name), i, j] = 77
            self.check(sheet, answers, "shown C3", 77)
            self.check_missing(sheet, result_of(name, 3, 3, "spilled"), "shown C3",
                               f"element {name} {i} {j}")

    def test_the_first_of_several_formulas_that_cover(self):
        sheet = sheet_of(4, 4, C1="A1", B2="A1", A3="A1")
        full = [[1, 2, 3], [4, 5, 6], [7, 8, 9]]
        three = {}
        for name in ("A3", "B2", "C1"):
            three |= result_of(name, 3, 3, "spilled", [[10 * n + len(three) for n in row] for row in full])
        self.check(sheet, three, "shown C3", three["element", (0, 2), 2, 0])
        two = three | result_of("C1", 2, 1)
        self.check(sheet, two, "shown C3", two["element", (1, 1), 1, 1])


if __name__ == "__main__":
    unittest.main()
