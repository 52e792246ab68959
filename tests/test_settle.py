"""The settled state and the display in spillsheet.settle."""

import copy
import itertools
import random
import time
import unittest

from spillsheet.grid import cell_name, parse_cell
from spillsheet.parser import parse
from spillsheet.rules import apply_rule, questions_of
from spillsheet.settle import display, settle
from tests.answers import result_of, shown
from tests.random_expressions import random_sheet, random_spilling_sheet
from tests.reference import reference_settled
from tests.test_rules import sheet_of


def full_sheet(content_of):
    """A sheet of 12 rows and columns with content everywhere."""
    contents = {}
    for row in range(12):
        for column in range(12):
            content = content_of(row, column)
            contents[row, column] = parse(content) if isinstance(content, str) else content
    return (12, 12, contents)


def cell_before(row, column):
    """The name of the cell before this one in reading order."""
    return cell_name((row, column - 1) if column else (row - 1, 11))


class DisplayTest(unittest.TestCase):
    def check(self, sheet, expected):
        before = copy.deepcopy(sheet)
        result = display(sheet)
        self.assertEqual(result, expected)
        self.assertEqual([type(scalar) for row in result for scalar in row],
                         [type(scalar) for row in expected for scalar in row])
        self.assertIs(type(result), tuple)
        for row in result:
            self.assertIs(type(row), tuple)
        self.assertEqual(sheet, before)

    def test_the_examples_of_the_document(self):
        self.check((2, 3, {(0, 0): parse("SEQ(1,3)"), (1, 2): 5}), ((1, 2, 3), (None, None, 5)))
        self.check((2, 2, {(0, 0): parse("SEQ(2)"), (1, 0): 4}), (("#SPILL", None), (4, None)))
        self.check((3, 3, {(0, 1): parse("SEQ(1+C2)"), (1, 0): parse("SEQ(1,3)")}),
                   ((None, "?", None), ("?", "?", "?"), (None, "?", None)))
        self.check(
            (4, 2, {(0, 0): 0, (1, 1): 5, (2, 1): 7, (3, 1): 2, (1, 0): parse("B2:B4+A1:A3")}),
            ((0, None), (5, 5), (12, 7), (14, 2)))

    def test_the_running_totals_of_the_overview(self):
        sheet = sheet_of(6, 2, A1=0, A2="B2:B6+A1:A5", B2=3, B3=1, B4=4, B5=1, B6=5)
        self.check(sheet, ((0, None), (3, 3), (4, 1), (8, 4), (9, 1), (14, 5)))

    def test_argument_by_name(self):
        self.assertEqual(display(sheet=(1, 1, {})), ((None,),))

    def test_sizes(self):
        self.check((1, 1, {}), ((None,),))
        self.check((1, 3, {(0, 1): 5}), ((None, 5, None),))
        self.check((3, 1, {(2, 0): 5}), ((None,), (None,), (5,)))
        self.check((12, 12, {}), ((None,) * 12,) * 12)

    def test_references_and_chains(self):
        self.check(sheet_of(1, 4, A1=2, B1="A1*3", C1="B1-A1", D1="SUM(A1:C1)"), ((2, 6, 4, 12),))
        self.check(sheet_of(1, 4, D1=2, C1="D1*3", B1="C1-D1", A1="SUM(B1:D1)"), ((12, 4, 6, 2),))
        self.check(sheet_of(1, 3, A1="B2", B1="A1+1", C1="IFERROR(B1,7)"), (("#REF", "#REF", 7),))
        self.check(sheet_of(1, 2, B1="A1"), ((None, None),))

    def test_spills_that_others_read(self):
        self.check(sheet_of(3, 3, A1="SEQ(3)", B1="A1#*2", C1="SUM(B1:B3)"),
                   ((1, 2, 12), (2, 4, None), (3, 6, None)))
        self.check(sheet_of(3, 3, A1="SEQ(3)", A2=5, B1="A1#", C1="IFERROR(B1,A2)"),
                   (("#SPILL", "#SPILL", 5), (5, None, None), (None, None, None)))

    def test_who_yields(self):
        # The formula above and to the right goes first, and the one below it yields.
        self.check(sheet_of(3, 3, C1="SEQ(3)", A2="SEQ(1,3)"),
                   ((None, None, 1), ("#SPILL", None, 2), (None, None, 3)))
        self.check(sheet_of(3, 3, C1="SEQ(1)", A2="SEQ(1,3)"),
                   ((None, None, 1), (1, 2, 3), (None, None, None)))
        # It is itself blocked by content, so there is room after all.
        self.check(sheet_of(3, 3, C1="SEQ(3)", A2="SEQ(1,3)", C3=9),
                   ((None, None, "#SPILL"), (1, 2, 3), (None, None, 9)))
        # A chain of formulas, each of which yields to the one above and to the right.
        self.check(sheet_of(4, 4, D1="SEQ(2)", B2="SEQ(2,3)", A3="SEQ(1,2)"),
                   ((None, None, None, 1), (None, "#SPILL", None, 2), (1, 2, None, None),
                    (None, None, None, None)))

    def test_blocked_at_the_edge(self):
        self.check(sheet_of(2, 2, B1="SEQ(1,2)", A2="SEQ(2)"), ((None, "#SPILL"), ("#SPILL", None)))

    def test_formulas_that_read_their_own_spill(self):
        self.check(sheet_of(1, 5, A1=1, B1="A1:D1*2"), ((1, 2, 4, 8, 16),))
        self.check(sheet_of(2, 1, A1="SEQ(2)*ROWS(A2:A3)"), ((1,), (2,)))

    def test_circles_stay_undecided(self):
        self.check(sheet_of(1, 1, A1="A1"), (("?",),))
        self.check(sheet_of(1, 3, A1="B1", B1="C1", C1="A1"), (("?", "?", "?"),))
        self.check(sheet_of(1, 3, A1="A1+1", B1="IFERROR(A1,1)", C1="5"), (("?", "?", 5),))
        self.check(sheet_of(2, 2, A1="SEQ(B2,2)"), (("?", "?"), ("?", "?")))
        self.check(sheet_of(2, 2, A1="A1#"), (("?", "?"), ("?", "?")))

    def test_what_a_circle_does_not_need_is_settled(self):
        # The rows and columns are known although the element is not.
        self.check(sheet_of(2, 3, A1="A1", B1="ROWS(A1#)", C1="IF(1,2,A1)"),
                   (("?", 1, 2), (None, None, None)))
        self.check(sheet_of(1, 3, A1="IF(B1,A1,4)", B1=0), ((4, 0, None),))
        # Two elements of one formula that read each other, and a third that does not.
        self.check(sheet_of(3, 2, A1="STACK(A2,STACK(A1,B1))", B1=8),
                   (("?", 8), ("?", None), (8, None)))

    def test_nothing_beyond_the_rules_is_answered(self):
        # Every complete state has 5 in A1, but the rules do not tell.
        self.check(sheet_of(1, 1, A1="IF(COUNT(A1),5,5)"), (("?",),))
        self.check(sheet_of(1, 1, A1="0*A1"), (("?",),))

    def test_spills_out_of_a_circle(self):
        # The columns of A2 are known to end before column C, so C2 is blank.
        self.check(sheet_of(2, 3, A1="COUNT(C2)", A2="BESIDE(A2,B2)"),
                   ((0, None, None), ("?", "?", None)))
        # B1 is too short for row 3, whatever it shows.
        self.check(sheet_of(3, 3, B1="SEQ(2)*B1", A3="SEQ(1,3)"),
                   ((None, "?", None), (None, "?", None), (1, 2, 3)))


class SettleTest(unittest.TestCase):
    def settle(self, sheet, **known):
        before = copy.deepcopy((sheet, known))
        state = settle(sheet, **known)
        self.assertEqual((sheet, known), before)
        self.assertIs(type(state), dict)
        return state

    def test_all_answers_of_small_sheets(self):
        self.assertEqual(self.settle((1, 1, {})), {("shown", (0, 0)): None})
        self.assertEqual(self.settle((1, 2, {(0, 1): 5})), shown(A1=None, B1=5))
        self.assertEqual(
            self.settle(sheet_of(1, 2, A1="SEQ(1,2)")),
            result_of("A1", 1, 2, "spilled", [[1, 2]]) | shown(A1=1, B1=2))
        self.assertEqual(
            self.settle(sheet_of(1, 2, A1="SEQ(1,2)", B1=3)),
            result_of("A1", 1, 2, "blocked", [[1, 2]]) | shown(A1="#SPILL", B1=3))
        self.assertEqual(
            self.settle(sheet_of(1, 1, A1="SEQ(0)")),
            result_of("A1", 1, 1, "single", [["#SIZE"]]) | shown(A1="#SIZE"))

    def test_undecided_questions_are_not_in_the_state(self):
        self.assertEqual(self.settle(sheet_of(1, 1, A1="A1")), result_of("A1", 1, 1, "single"))
        self.assertEqual(self.settle(sheet_of(1, 1, A1="A1#")), {})
        self.assertEqual(self.settle(sheet_of(2, 1, A1="SEQ(A2)")), {("columns", (0, 0)): 1})
        self.assertEqual(
            self.settle(sheet_of(2, 1, A1="STACK(A1,7)")),
            result_of("A1", 2, 1, "spilled") | {("element", (0, 0), 1, 0): 7} | shown(A2=7))

    def test_known_must_be_passed_by_name(self):
        with self.assertRaises(TypeError):
            settle((1, 1, {}), {})
        self.assertEqual(settle(known=None, sheet=(1, 1, {})), {("shown", (0, 0)): None})

    def test_results_are_new_and_known_stays_as_it_is(self):
        sheet = sheet_of(2, 2, A1="SEQ(2,2)")
        state = self.settle(sheet)
        again = self.settle(sheet, known=state)
        self.assertEqual(again, state)
        again["changed"] = True
        del again["rows", (0, 0)]
        self.assertEqual(self.settle(sheet, known=state), state)
        self.assertEqual(self.settle(sheet), state)

    def test_known_answers(self):
        source = random.Random(3)
        for _ in range(150):
            sheet = random_spilling_sheet(source, 4, 4, source.randrange(1, 7))
            state = self.settle(sheet)
            self.assertEqual(self.settle(sheet, known=None), state)
            self.assertEqual(self.settle(sheet, known={}), state)
            self.assertEqual(self.settle(sheet, known=state), state)
            for share in (0.1, 0.5, 0.9):
                known = {question: state[question] for question in state
                         if source.random() < share}
                for question in list(known):
                    if known[question] == "spilled":
                        for kind in ("rows", "columns"):
                            known[kind, question[1]] = state[kind, question[1]]
                self.assertEqual(self.settle(sheet, known=known), state)

    def test_known_elements_of_a_formula_whose_size_is_not_known(self):
        sheet = sheet_of(2, 2, A1="SEQ(2)+B1", B1=1)
        state = self.settle(sheet)
        known = {("element", (0, 0), 1, 0): state["element", (0, 0), 1, 0]}
        self.assertEqual(self.settle(sheet, known=known), state)

    def test_the_order_of_the_contents_does_not_matter(self):
        source = random.Random(4)
        for _ in range(40):
            rows, columns, contents = random_spilling_sheet(source, 3, 4, 6)
            cells = list(contents)
            expected = self.settle((rows, columns, contents))
            for _ in range(3):
                source.shuffle(cells)
                sheet = (rows, columns, {cell: contents[cell] for cell in cells})
                self.assertEqual(self.settle(sheet), expected)

    def test_the_same_state_in_whatever_order_the_rules_are_applied(self):
        source = random.Random(20261120)
        undecided = 0
        for number in range(500):
            rows, columns = source.randrange(1, 5), source.randrange(1, 6)
            if number % 2:
                sheet = random_spilling_sheet(source, rows, columns, source.randrange(1, 8))
            else:
                sheet = random_sheet(source, rows, columns, 3)
            state = self.settle(sheet)
            self.assertEqual(state, reference_settled(sheet, source), msg=sheet)
            for question in questions_of(sheet, state):
                kind, found = apply_rule(sheet, state, question)
                if question in state:
                    self.assertEqual((kind, found), ("answer", state[question]))
                else:
                    undecided += 1
                    self.assertEqual(kind, "missing")
                    self.assertFalse(any(needed in state for needed in found))
            expected = tuple(
                tuple(state.get(("shown", (row, column)), "?") for column in range(columns))
                for row in range(rows))
            self.assertEqual(display(sheet), expected)
        self.assertGreater(undecided, 500)


class LargeSheetsTest(unittest.TestCase):
    """Sheets full of formulas, which must not take long."""

    def setUp(self):
        self.started = time.perf_counter()

    def tearDown(self):
        self.assertLess(time.perf_counter() - self.started, 30)

    def test_a_long_chain_in_reading_order(self):
        sheet = full_sheet(lambda row, column: cell_before(row, column) + "+1" if row + column else 1)
        self.assertEqual(display(sheet), tuple(
            tuple(12 * row + column + 1 for column in range(12)) for row in range(12)))

    def test_a_long_chain_backwards(self):
        cells = list(itertools.product(range(12), repeat=2))
        following = dict(zip(cells, cells[1:]))
        sheet = full_sheet(lambda row, column: cell_name(following[row, column]) + "+1"
                           if (row, column) in following else 1)
        self.assertEqual(display(sheet)[0][0], 144)
        self.assertEqual(display(sheet)[11][11], 1)

    def test_a_long_circle(self):
        sheet = full_sheet(lambda row, column: cell_before(row, column) + "+1" if row + column
                           else "L12")
        self.assertEqual(display(sheet), (("?",) * 12,) * 12)

    def test_large_results_that_are_all_blocked(self):
        sheet = full_sheet(lambda row, column: f"SEQ(12,12)*{row + 1}+{column}")
        state = settle(sheet)
        self.assertEqual(len(state), 144 * (3 + 144 + 1))
        self.assertEqual(display(sheet), (("#SPILL",) * 12,) * 12)

    def test_sorted_and_transposed_results(self):
        sheet = full_sheet(lambda row, column:
                           f"SORT(TRANSPOSE(SORT(SORT(-SEQ(12,12)))))+{12 * row + column}")
        state = settle(sheet)
        self.assertEqual(len(state), 144 * (3 + 144 + 1))
        self.assertEqual(state["element", (0, 1), 0, 0], -143)
        self.assertEqual(state["element", (0, 1), 11, 11], 0)

    def test_everything_reads_everything(self):
        sheet = full_sheet(lambda row, column: "SUM(A1:L12)")
        self.assertEqual(display(sheet), (("?",) * 12,) * 12)

    def test_sums_of_all_that_is_above(self):
        sheet = full_sheet(lambda row, column:
                           f"SUM(A1:{cell_name((row - 1, 11))})-{11 * 12 ** row}" if row and row < 5
                           else 1)
        shown_there = display(sheet)
        self.assertEqual(shown_there[0], (1,) * 12)
        self.assertEqual(shown_there[1], (12 - 132,) * 12)
        self.assertEqual(shown_there[11], (1,) * 12)

    def test_results_that_read_spilled_results(self):
        sheet = full_sheet(lambda row, column:
                           f"IFERROR({cell_before(row, column)}#,SEQ(12,12))+1" if row + column
                           else "SEQ(12,12)")
        state = settle(sheet)
        self.assertEqual(len(state), 144 * (3 + 144 + 1))

    def test_formulas_on_a_diagonal_that_wait_for_room(self):
        contents = {(row, 11 - row): parse(f"SEQ(1+COUNT(L12),{row + 1})") for row in range(12)}
        # L12 shows what the formulas leave there, and all of them read it.
        self.assertEqual(display((12, 12, contents))[11][11], "?")
        contents[11, 11] = 1
        self.assertEqual(display((12, 12, contents))[0][11], 1)

    def test_a_full_sheet_that_reads_its_own_spill(self):
        sheet = (12, 12, {(0, 0): 1, (0, 1): parse("A1:K1+1"), (1, 0): parse("A1:L11+1")})
        self.assertEqual(display(sheet), tuple(
            tuple(row + column + 1 for column in range(12)) for row in range(12)))


if __name__ == "__main__":
    unittest.main()
