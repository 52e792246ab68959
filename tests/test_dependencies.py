"""What is kept when a sheet is replaced, in spillsheet.dependencies."""

import copy
import random
import time
import unittest

from spillsheet.dependencies import kept_questions
from spillsheet.grid import cells_of, parse_cell
from spillsheet.parser import parse
from spillsheet.settle import settle
from tests.answers import asked
from tests.random_expressions import random_sheet, random_spilling_sheet
from tests.reference_kept import reference_kept
from tests.test_rules import sheet_of
from tests.test_settle import full_sheet


def edited(sheet, **contents):
    """The sheet with other contents; None makes a cell empty."""
    rows, columns, before = sheet
    after = dict(before)
    for name, content in contents.items():
        cell = parse_cell(name)
        after.pop(cell, None)
        if content is not None:
            after[cell] = parse(content) if isinstance(content, str) else content
    return (rows, columns, after)


class KeptTestCase(unittest.TestCase):
    def kept(self, before, after):
        given = copy.deepcopy((before, after))
        kept = kept_questions(before, after)
        self.assertEqual((before, after), given)
        self.assertIs(type(kept), list)
        self.assertEqual(kept, sorted(kept))
        state, state_after = settle(before), settle(after)
        for question in kept:
            self.assertIn(question, state)
            self.assertEqual(state_after.get(question, "missing"), state[question],
                             msg=(before, after, question))
        return kept

    def check(self, before, after, *words):
        self.assertEqual(self.kept(before, after), sorted(asked(*words)))

    def check_lost(self, before, after, *words):
        """Checks that all settled questions are kept except for these."""
        lost = asked(*words)
        state = settle(before)
        for question in lost:
            self.assertIn(question, state)
        self.assertEqual(self.kept(before, after),
                         sorted(question for question in state if question not in lost))


class KeptQuestionsTest(KeptTestCase):
    def test_the_example_of_the_document(self):
        before = (1, 3, {(0, 0): 1, (0, 2): ("cell", 0, 0)})
        after = (1, 3, {(0, 0): 1, (0, 1): 5, (0, 2): ("cell", 0, 0)})
        self.assertEqual(self.kept(before, after), [
            ("columns", (0, 2)), ("element", (0, 2), 0, 0), ("rows", (0, 2)), ("shown", (0, 0)),
            ("shown", (0, 2)), ("status", (0, 2))])

    def test_arguments_by_name_and_a_new_list(self):
        sheet = sheet_of(1, 2, A1=5)
        kept = kept_questions(after=edited(sheet, B1=1), before=sheet)
        self.assertEqual(kept, [("shown", (0, 0))])
        kept.append("changed")
        self.assertEqual(kept_questions(sheet, edited(sheet, B1=1)), [("shown", (0, 0))])

    def test_equal_sheets_keep_everything_that_is_settled(self):
        for sheet in [(1, 1, {}), sheet_of(3, 3, A1="SEQ(2,2)", C3=4),
                      sheet_of(3, 3, B1="SEQ(1+C2)", A2="SEQ(1,3)")]:
            self.assertEqual(self.kept(sheet, sheet), sorted(settle(sheet)))
            self.assertEqual(self.kept(sheet, copy.deepcopy(sheet)), sorted(settle(sheet)))

    def test_grids_of_other_sizes_keep_nothing(self):
        sheet = sheet_of(3, 4, A1=5, B2="A1")
        for rows, columns in ((3, 5), (3, 3), (4, 4), (2, 4), (4, 3), (12, 12)):
            self.check(sheet, (rows, columns, sheet[2]))

    def test_a_number_that_is_read(self):
        sheet = sheet_of(2, 2, A1=1, B1="A1", A2=3, B2="A2")
        self.check_lost(sheet, edited(sheet, A1=2),
                        "shown A1", "rows B1", "columns B1", "element B1 0 0", "status B1", "shown B1")
        # The same content is no edit.
        self.check_lost(sheet, edited(sheet, A1=1))

    def test_a_number_that_becomes_a_formula_of_that_number(self):
        sheet = sheet_of(1, 2, A1=1, B1=2)
        self.check_lost(sheet, edited(sheet, A1="1"), "shown A1")

    def test_a_formula_that_is_read(self):
        sheet = sheet_of(2, 2, A1="5", B1="A1", A2="7")
        self.check(sheet, edited(sheet, A1="6"), "rows A2", "columns A2", "element A2 0 0",
                   "status A2", "shown A2")

    def test_cells_that_are_read_by_ranges(self):
        sheet = sheet_of(2, 3, A1=1, A2=2, B1=3, C1="SUM(A1:B2)", C2="A1")
        lost = ["rows C1", "columns C1", "element C1 0 0", "status C1", "shown C1"]
        self.check_lost(sheet, edited(sheet, A2=3), "shown A2", "shown B2", *lost)

    def test_ranges_that_are_not_inside_the_grid(self):
        sheet = sheet_of(2, 2, A1=1, B1="A1:A3")
        self.check_lost(sheet, edited(sheet, A1=2), "shown A1", "rows B1", "columns B1",
                        "element B1 0 0", "status B1", "shown B1", "shown A2", "shown B2")

    def test_cells_outside_the_grid_do_not_count(self):
        sheet = sheet_of(1, 2, A1="C1+A2+L12#", B1=3)
        self.check_lost(sheet, edited(sheet, B1=4), "shown B1")

    def test_a_spill_reference_to_a_formula(self):
        sheet = sheet_of(3, 3, A1="SEQ(2)", C3="SUM(A1#)")
        everything = self.kept(sheet, sheet)
        # What stands behind the spill is not in its way, but that may be.
        self.check(sheet, edited(sheet, C1=9), *[
            "rows A1", "columns A1", "element A1 0 0", "element A1 1 0", "status A1", "shown A1",
            "shown B1", "shown A2", "shown B2", "shown A3", "shown B3",
            "rows C3", "columns C3", "element C3 0 0", "status C3", "shown C3"])
        kept = self.kept(sheet, edited(sheet, A2=9))
        self.assertNotIn(("element", (2, 2), 0, 0), kept)
        self.assertNotIn(("status", (0, 0)), kept)
        self.assertIn(("rows", (0, 0)), kept)
        self.assertLess(len(kept), len(everything))

    def test_a_spill_reference_to_a_cell_without_a_formula(self):
        sheet = sheet_of(1, 3, A1=1, B1="A1#", C1="B1")
        self.check(sheet, edited(sheet, A1="SEQ(1)"))
        sheet = sheet_of(1, 3, B1="A1#", C1=4)
        self.check(sheet, edited(sheet, A1="SEQ(1)"), "shown C1")

    def test_cells_in_the_way_of_a_spill(self):
        sheet = sheet_of(3, 3, A1="SEQ(2,2)")
        results = ["rows A1", "columns A1"] + [f"element A1 {i} {j}" for i in (0, 1) for j in (0, 1)]
        self.check(sheet, edited(sheet, B2=5), *results)
        self.check(sheet, edited(sheet, C1=5), *results, "status A1", "shown A1", "shown A2", "shown A3",
                   "shown B1", "shown B2", "shown B3")

    def test_a_single_result_needs_no_room(self):
        sheet = sheet_of(2, 2, A1="5")
        self.check(sheet, edited(sheet, B1=5), "rows A1", "columns A1", "element A1 0 0", "status A1",
                   "shown A1", "shown A2")

    def test_a_formula_that_may_come_down_into_the_room_of_another(self):
        sheet = sheet_of(3, 3, B1="SEQ(1)", A2="SEQ(1,3)")
        kept = self.kept(sheet, edited(sheet, B1="SEQ(2)"))
        self.assertNotIn(("status", (1, 0)), kept)
        self.assertIn(("rows", (1, 0)), kept)
        # Its status depends on that of the other formula, which depends on what that one reads.
        sheet = sheet_of(3, 3, B1="SEQ(C1)", C1=1, A3="SEQ(1,2)")
        kept = self.kept(sheet, edited(sheet, C1=2))
        self.assertNotIn(("status", (2, 0)), kept)
        self.assertIn(("columns", (2, 0)), kept)

    def test_a_blocked_spill_beyond_the_grid(self):
        sheet = sheet_of(2, 2, A1="SEQ(5,5)", B2=1)
        kept = self.kept(sheet, edited(sheet, B2=2))
        self.assertNotIn(("status", (0, 0)), kept)
        self.assertIn(("element", (0, 0), 4, 4), kept)

    def test_undecided_questions_are_never_kept(self):
        sheet = sheet_of(2, 3, A1="B1", B1="A1", A2=4)
        kept = self.kept(sheet, edited(sheet, C1=5))
        self.assertEqual(kept, sorted(asked(
            "rows A1", "columns A1", "status A1", "rows B1", "columns B1", "status B1", "shown A2",
            "shown B2")))

    def test_undecided_questions_have_dependencies(self):
        # What B2 shows is settled, although it is read by nothing that is.
        sheet = sheet_of(2, 3, A1="A1+SUM(B2)", B2=3, C2="IFERROR(B2,A1)")
        self.assertNotIn(("shown", (0, 0)), settle(sheet))
        kept = self.kept(sheet, edited(sheet, B2=4))
        self.assertNotIn(("rows", (0, 0)), kept)
        sheet = sheet_of(3, 3, A1="IF(A1,SEQ(2),SEQ(3))+B1", B1=1, C3="ROWS(A2:B2)+0*COUNT(A2)")
        self.assertIn(("rows", (2, 2)), settle(sheet))
        self.assertNotIn(("rows", (2, 2)), self.kept(sheet, edited(sheet, B1=2)))

    def test_elements_of_undecided_size_do_not_count(self):
        sheet = sheet_of(2, 2, A1="SEQ(A1)", B2="A1#")
        self.check(sheet, edited(sheet, B1=2), "columns A1", "columns B2")
        self.check(sheet, edited(sheet, B2=None), "columns A1", "shown B1")
        self.check(sheet, edited(sheet, A1=None))

    def test_several_edits(self):
        sheet = sheet_of(2, 3, A1=1, B1="A1", A2=2, B2="A2", C2="5")
        self.check(sheet, edited(sheet, A1=3, A2=None), "rows C2", "columns C2", "element C2 0 0",
                   "status C2", "shown C2")

    def test_all_cells_edited(self):
        sheet = full_sheet(lambda row, column: "SUM(A1:L12)")
        self.check(sheet, (12, 12, {}))
        self.check((12, 12, {}), sheet)


class RandomKeptTest(KeptTestCase):
    def random_edit(self, source, sheet, other):
        """The sheet with some contents of another one."""
        cells = source.sample(cells_of((0, 0, sheet[0] - 1, sheet[1] - 1)), source.choice([1, 1, 1, 2, 4]))
        after = {cell: content for cell, content in sheet[2].items() if cell not in cells}
        for cell in cells:
            if cell in other[2]:
                after[cell] = other[2][cell]
        return (sheet[0], sheet[1], after)

    def test_random_sheets_against_the_document_word_by_word(self):
        source = random.Random(2627)
        kept = lost = 0
        for number in range(700):
            rows, columns = source.randrange(1, 6), source.randrange(2, 6)
            if number % 3:
                before, other = (random_spilling_sheet(source, rows, columns, source.randrange(1, 6))
                                 for _ in range(2))
            else:
                before, other = (random_sheet(source, rows, columns, 3) for _ in range(2))
            if source.random() < 0.5:
                before, other = ((size, width, {cell: content for cell, content in contents.items()
                                                if source.random() < 0.6})
                                 for size, width, contents in (before, other))
            if rows * columns < 4:
                continue
            after = self.random_edit(source, before, other)
            found = self.kept(before, after)
            self.assertEqual(found, reference_kept(before, after), msg=(before, after))
            kept += len(found)
            lost += len(settle(before)) - len(found)
        self.assertGreater(kept, 3000)
        self.assertGreater(lost, 3000)

    def test_kept_answers_lead_to_the_same_state(self):
        source = random.Random(27)
        for _ in range(300):
            before, other = (random_spilling_sheet(source, 5, 5, source.randrange(1, 9)) for _ in range(2))
            after = self.random_edit(source, before, other)
            state = settle(before)
            known = {question: state[question] for question in self.kept(before, after)}
            self.assertEqual(settle(after, known=known), settle(after))

    def test_full_sheets_do_not_take_long(self):
        started = time.perf_counter()
        for text in ("SUM(A1:L12)", "SEQ(12,12)", "A1#+B2#+A1:L12"):
            sheet = full_sheet(lambda row, column: text)
            kept_questions(sheet, edited(sheet, L12=5))
        self.assertLess(time.perf_counter() - started, 30)


if __name__ == "__main__":
    unittest.main()
