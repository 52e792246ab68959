"""Programs in spillsheet.compiler, and the machine that runs them in spillsheet.machine."""

import copy
import random
import sys
import time
import unittest

from spillsheet.compiler import compile_expression
from spillsheet.evaluate import evaluate
from spillsheet.expressions import depth_of, is_expression
from spillsheet.machine import run_program
from spillsheet.parser import parse
from spillsheet.rules import apply_rule, questions_of
from spillsheet.settle import settle
from tests.answers import asked, result_of, shown
from tests.random_expressions import (
    random_answers, random_expression, random_sheet, random_spilling_sheet,
)
from tests.reference import reference_part
from tests.samples import nested
from tests.test_rules import sheet_of

SIZES = (("rows",), ("columns",), ("failure",))

# At least one of every kind, and of every function with every number of arguments.
TEXTS = [
    "5", "0", "1000000000", "A1", "L12", "A1:B2", "A1:L12", "B2:B2", "A1#", "L12#", "#REF",
    "-A1", "--A1:B2", "A1+B1", "A1:B2-C1", "A1*A1:A3", "A1:A3/B1:B3", "A1:A2<B1:B3", "A1<=2", "A1#=B2#",
    "SUM(A1:B2)", "COUNT(A1:B2)", "MAX(A1#)", "MIN(A1:C1)", "ROWS(A1#)", "COLUMNS(A1:C2)",
    "TRANSPOSE(A1:C2)", "TRANSPOSE(A1#)", "SORT(A1:B3)", "SORT(A1#)", "SEQ(3)", "SEQ(A1)", "SEQ(2,3)",
    "SEQ(A1,B1)", "SEQ(A1:A2)", "IFERROR(A1,B1)", "IFERROR(A1:B2,C1)", "IFERROR(A1#,SEQ(2))",
    "FILTER(A1:B3,A1:A3)", "FILTER(A1#,B1:B2)", "FILTER(A1:A3,B1:B2)", "TAKE(A1:B3,2)", "TAKE(A1:B3,-2)",
    "TAKE(A1#,B1)", "DROP(A1:B3,1)", "DROP(A1:B3,-1)", "DROP(A1#,B1)", "STACK(A1:B2,C1:D1)",
    "STACK(A1#,B1)", "STACK(SEQ(7),SEQ(6))", "STACK(SEQ(7),SEQ(5))", "BESIDE(SEQ(1,6),SEQ(1,6))",
    "BESIDE(SEQ(1,6),SEQ(1,7))", "BESIDE(A1:B2,C1:C2)", "BESIDE(A1,B1#)", "IF(A1,B1,C1)",
    "IF(A1,A1:B2,A1#)", "IF(A1#,SEQ(2),SEQ(3))", "INDEX(A1:C3,2,3)", "INDEX(A1#,B1,C1)", "INDEX(A1:A2,3,1)",
]


def parts_of(value):
    """All parts of a value, at any depth, the value itself first."""
    found = [value]
    if isinstance(value, (list, tuple)):
        for part in value:
            found += parts_of(part)
    if isinstance(value, dict):
        for key, part in value.items():
            found += parts_of(key) + parts_of(part)
    return found


def slow_settle(sheet):
    """The settled state, where formulas are worked out by their programs."""
    contents = sheet[2]
    programs = {cell: compile_expression(content) for cell, content in contents.items()
                if isinstance(content, tuple)}
    answers, before = {}, -1
    while len(answers) > before:
        before = len(answers)
        for question in questions_of(sheet, answers):
            if question in answers:
                continue
            kind, cell, *places = question
            if kind in ("status", "shown"):
                outcome = apply_rule(sheet, answers, question)
            else:
                outcome = run_program(programs[cell], (kind, *places), sheet, answers)
            if outcome[0] == "answer":
                answers[question] = outcome[1]
    return answers


class DeepestStack:
    """Watches the calls inside the package: how deep they get, and which function calls itself."""

    def __init__(self):
        self.most = 0
        self.twice = set()

    def __enter__(self):
        sys.setprofile(self.watch)
        return self

    def __exit__(self, *_):
        sys.setprofile(None)

    def watch(self, frame, event, _):
        if event != "call":
            return
        active = []
        while frame is not None:
            code = frame.f_code
            if "spillsheet" in code.co_filename and "tests" not in code.co_filename:
                active.append((code.co_filename, code.co_name, code.co_firstlineno))
            frame = frame.f_back
        self.most = max(self.most, len(active))
        # In Python 3.11 a comprehension is a function, too.
        named = [place for place in active if not place[1].startswith("<")]
        self.twice.update(place for place in named if named.count(place) > 1)


class CompileTest(unittest.TestCase):
    def check(self, expression):
        before = copy.deepcopy(expression)
        program = compile_expression(expression)
        self.assertEqual(expression, before)
        self.assertIs(type(program), list)
        self.assertGreater(len(program), 0)
        for part in parts_of(program):
            self.assertIn(type(part), (list, tuple, dict, int, str, bool, type(None)))
            if is_expression(part):
                self.assertEqual(depth_of(part), 1, msg=expression)
        return program

    def test_every_kind_of_expression(self):
        for text in TEXTS:
            self.check(parse(text))

    def test_random_expressions(self):
        source = random.Random(10)
        for _ in range(150):
            self.check(random_expression(source, source.randrange(1, 6)))
        for _ in range(10):
            self.check(random_expression(source, 12))

    def test_arguments_by_name(self):
        self.assertEqual(compile_expression(expression=("number", 5)), compile_expression(("number", 5)))

    def test_a_new_list_each_time(self):
        expression = parse("SUM(A1:B2)+A1#")
        first = compile_expression(expression)
        kept = copy.deepcopy(first)
        first.clear()
        first.append("changed")
        self.assertEqual(compile_expression(expression), kept)

    def test_a_little_beyond_the_greatest_depth(self):
        deep = nested(20, lambda part: ("negate", part), ("cell", 0, 0))
        program = self.check(deep)
        self.assertEqual(run_program(program, ("element", 0, 0), (1, 1, {}), shown(A1=7)), ("answer", 7))

    def test_equal_subexpressions_are_written_once(self):
        deep = nested(11, lambda part: ("call", "IF", (part, part, part)), ("cell", 0, 0))
        started = time.perf_counter()
        program = compile_expression(deep)
        self.assertLess(len(program), 2000)
        self.assertLess(time.perf_counter() - started, 20)


class RunProgramTestCase(unittest.TestCase):
    def check(self, expression, program, part, sheet, answers):
        expected = evaluate(expression, part, sheet, answers)
        outcome = run_program(program, part, sheet, answers)
        self.assertEqual(outcome, expected, msg=(expression, part, sheet, answers))
        self.assertIs(type(outcome), tuple)
        self.assertIs(type(outcome[1]), type(expected[1]))
        return outcome

    def check_all_parts(self, expression, program, sheet, answers):
        """Checks every part that the expression has; returns how many there are."""
        before = copy.deepcopy((program, sheet, answers))
        sizes = [self.check(expression, program, part, sheet, answers) for part in SIZES]
        rows, columns = (found if kind == "answer" else 2 for kind, found in sizes[:2])
        for i in range(rows):
            for j in range(columns):
                self.check(expression, program, ("element", i, j), sheet, answers)
        self.assertEqual((program, sheet, answers), before)
        return rows * columns + 3


class RunProgramTest(RunProgramTestCase):
    def run_text(self, text, part, sheet, answers):
        return run_program(compile_expression(parse(text)), part, sheet, answers)

    def test_the_example_of_the_document(self):
        program = compile_expression(parse("A1+1"))
        outcome = run_program(program, ("element", 0, 0), (1, 1, {}), {("shown", (0, 0)): 4})
        self.assertEqual(outcome, ("answer", 5))

    def test_arguments_by_name(self):
        program = compile_expression(parse("A1"))
        outcome = run_program(answers=shown(A1=3), sheet=(1, 1, {}), part=("element", 0, 0), program=program)
        self.assertEqual(outcome, ("answer", 3))

    def test_the_examples_of_evaluate(self):
        sheet = (3, 3, {})
        text = "IF(C1,SEQ(2),SEQ(3))"
        self.assertEqual(self.run_text(text, ("rows",), sheet, {}), ("missing", asked("shown C1")))
        self.assertEqual(self.run_text(text, ("rows",), sheet, shown(C1=1)), ("answer", 2))
        self.assertEqual(self.run_text("IF(C1,1,2)", ("rows",), sheet, {}), ("answer", 1))

    def test_some_values(self):
        sheet = sheet_of(3, 3, C3="SEQ(2,2)")
        answers = shown(A1=3, A2=1, A3=None, B1=0, B2=2, B3="#DIV") | result_of(
            "C3", 2, 2, "blocked", [[1, 2], [3, 4]])
        for text, part, value in (
            ("SUM(A1:A3)", ("element", 0, 0), 4), ("SUM(A1:B3)", ("element", 0, 0), "#DIV"),
            ("COUNT(A1:B3)", ("element", 0, 0), 4), ("MAX(A1:B2)", ("element", 0, 0), 3),
            ("SORT(A1:B3)", ("element", 0, 1), "#DIV"), ("SORT(A1:B3)", ("element", 2, 1), 0),
            ("SORT(B1:B3)", ("element", 0, 0), "#DIV"), ("FILTER(A1:A3,B1:B3)", ("failure",), "#DIV"),
            ("FILTER(A1:A2,B1:B2)", ("element", 0, 0), 1), ("FILTER(A1:A2,0*B1:B2)", ("failure",), "#EMPTY"),
            ("FILTER(A1:A2,B1:B3)", ("failure",), "#SHAPE"), ("TAKE(A1:A3,-2)", ("element", 0, 0), 1),
            ("TAKE(A1:A3,0)", ("failure",), "#SIZE"), ("TAKE(A1:A3,9)", ("rows",), 3),
            ("DROP(A1:A3,1)", ("element", 0, 0), 1), ("DROP(A1:A3,-1)", ("element", 1, 0), 1),
            ("DROP(A1:A3,3)", ("failure",), "#EMPTY"), ("STACK(A1:A2,B1:B2)", ("element", 3, 0), 2),
            ("STACK(SEQ(7),SEQ(6))", ("failure",), "#SIZE"), ("STACK(A1:B1,A1)", ("failure",), "#SHAPE"),
            ("BESIDE(A1:A2,B1:B2)", ("element", 1, 1), 2), ("BESIDE(A1:A2,B1:B2)", ("columns",), 2),
            ("INDEX(A1:B2,2,1)", ("element", 0, 0), 1), ("INDEX(A1:B2,3,1)", ("element", 0, 0), "#SIZE"),
            ("SEQ(3,4)", ("element", 2, 3), 12), ("SEQ(13)", ("failure",), "#SIZE"), ("SEQ(13)", ("rows",), 1),
            ("TRANSPOSE(A1:B3)", ("element", 1, 2), "#DIV"), ("C3#", ("failure",), "#SPILL"),
            ("C3#", ("rows",), 1), ("C3#", ("element", 0, 0), "#SPILL"), ("A1#", ("element", 0, 0), "#REF"),
            ("D1:D2", ("rows",), 1), ("D1", ("element", 0, 0), "#REF"), ("IFERROR(C3#,A1:A3)", ("rows",), 3),
            ("IFERROR(A1,5)", ("element", 0, 0), 3), ("IFERROR(B3,5)", ("element", 0, 0), 5),
            ("IF(A3,1,2)", ("element", 0, 0), 2), ("IF(B3,1,2)", ("failure",), "#DIV"),
            ("A1:A2+B1:B3", ("failure",), "#SHAPE"), ("A1:A3-A1", ("element", 2, 0), -3),
            ("-B1:B3", ("element", 2, 0), "#DIV"), ("A1/B1", ("element", 0, 0), "#DIV"),
        ):
            self.assertEqual(self.run_text(text, part, sheet, answers), ("answer", value), msg=(text, part))

    def test_what_is_known_although_answers_are_missing(self):
        sheet = sheet_of(3, 3, B1="C1", B2="C2")
        answers = result_of("B1", rows=1, columns=1) | result_of("B2", rows=2, columns=2)
        for text, part, value in (
            # The mask cannot go together with the array, whether it is blocked or not.
            ("FILTER(A1:A3,B1#)", ("rows",), 1), ("FILTER(A1:A3,B1#)", ("columns",), 1),
            ("FILTER(B1#,B2#)", ("rows",), 1), ("SORT(B1#)", ("rows",), 1), ("A1:A2+B2:C2", ("failure",), "#SHAPE"),
            ("IF(C3,A1:B2,A2:B3)", ("columns",), None), ("IFERROR(C3,1)", ("rows",), 1),
            ("IFERROR(B2#,B2#)", ("rows",), None), ("SUM(B2#)", ("rows",), 1), ("ROWS(B1#)", ("element", 0, 0), 1),
            ("TAKE(B1#,C3)", ("rows",), 1), ("DROP(B1#,C3)", ("rows",), 1), ("SEQ(2,C3)", ("failure",), None),
            ("SEQ(#REF,C3)", ("rows",), 1), ("SEQ(#REF,C3)", ("columns",), 1), ("SEQ(C3,#REF)", ("rows",), None),
            ("STACK(SEQ(7),SEQ(C3))", ("rows",), None), ("STACK(#REF,C3)", ("rows",), 2),
        ):
            expression = parse(text)
            outcome = self.check(expression, compile_expression(expression), part, sheet, answers)
            if value is None:
                self.assertEqual(outcome[0], "missing", msg=text)
            else:
                self.assertEqual(outcome, ("answer", value), msg=text)

    def test_missing_answers_at_each_place(self):
        source = random.Random(11)
        sheet = sheet_of(4, 4, A1="SEQ(2)", B2="A1")
        parts = 0
        for text in TEXTS:
            expression = parse(text)
            program = compile_expression(expression)
            for _ in range(3):
                answers = random_answers(source, sheet, 1)
                parts += self.check_all_parts(expression, program, sheet, answers)
                for question in list(answers):
                    kept = {other: answers[other] for other in answers if other != question}
                    if answers[question] != "spilled" and question[0] in ("rows", "columns"):
                        kept.pop(("status", question[1]), None)
                    parts += self.check_all_parts(expression, program, sheet, kept)
            self.check_all_parts(expression, program, sheet, {})
        self.assertGreater(parts, 10000)

    def test_random_expressions(self):
        source = random.Random(20261121)
        kinds = []
        for _ in range(2500):
            rows, columns = source.randrange(2, 7), source.randrange(2, 7)
            sheet = random_sheet(source, rows, columns, 1)
            answers = random_answers(source, sheet, source.choice([0.3, 0.6, 0.9, 0.97, 1]))
            expression = random_expression(source, source.randrange(1, 6), max(1, min(rows, columns) - 1))
            program = compile_expression(expression)
            self.check_all_parts(expression, program, sheet, answers)
            kinds.append(run_program(program, ("failure",), sheet, answers)[0])
        self.assertGreater(kinds.count("missing"), 50)
        self.assertGreater(kinds.count("answer"), 100)

    def test_random_expressions_of_depth_twelve(self):
        source = random.Random(12)
        found = 0
        while found < 25:
            expression = random_expression(source, 12, 4)
            if depth_of(expression) < 12:
                continue
            found += 1
            program = compile_expression(expression)
            sheet = random_sheet(source, 5, 5, 1)
            for share in (0.5, 0.9, 1):
                self.check_all_parts(expression, program, sheet, random_answers(source, sheet, share))

    def test_long_chains_of_depth_twelve(self):
        source = random.Random(13)
        leaves = [parse(text) for text in ("A1", "A1#", "B1:B2", "SEQ(2,B1)", "#REF", "3")]
        wraps = [
            lambda part: ("negate", part),
            lambda part: ("binary", "+", part, ("cell", 1, 1)),
            lambda part: ("binary", "-", ("range", 0, 0, 1, 0), part),
            lambda part: ("call", "SUM", (part,)),
            lambda part: ("call", "TRANSPOSE", (part,)),
            lambda part: ("call", "SORT", (part,)),
            lambda part: ("call", "STACK", (part, ("cell", 0, 1))),
            lambda part: ("call", "BESIDE", (("number", 2), part)),
            lambda part: ("call", "IF", (part, ("cell", 0, 0), part)),
            lambda part: ("call", "IFERROR", (part, ("range", 0, 0, 2, 1))),
            lambda part: ("call", "TAKE", (part, ("cell", 0, 1))),
            lambda part: ("call", "DROP", (part, ("number", 1))),
            lambda part: ("call", "FILTER", (part, part)),
            lambda part: ("call", "INDEX", (part, ("number", 1), ("cell", 0, 1))),
            lambda part: ("call", "SEQ", (part, part)),
        ]
        sheet = sheet_of(3, 3, A1="SEQ(2)")
        for _ in range(150):
            expression = source.choice(leaves)
            while depth_of(expression) < 12:
                expression = source.choice(wraps)(expression)
            if not is_expression(expression):
                continue
            program = compile_expression(expression)
            for share in (0.8, 1):
                self.check_all_parts(expression, program, sheet, random_answers(source, sheet, share))

    def test_against_the_document_word_by_word(self):
        source = random.Random(14)
        for _ in range(400):
            sheet = random_sheet(source, 4, 4, 1)
            answers = random_answers(source, sheet, source.choice([0.6, 0.95]))
            expression = random_expression(source, source.randrange(2, 5), 3)
            program = compile_expression(expression)
            for part in SIZES + (("element", 0, 0),):
                self.assertEqual(run_program(program, part, sheet, answers),
                                 reference_part(expression, part, sheet, answers))

    def test_the_same_program_again(self):
        source = random.Random(15)
        for _ in range(60):
            expression = random_expression(source, 4, 3)
            program = compile_expression(expression)
            before = copy.deepcopy(program)
            for _ in range(8):
                sheet = random_sheet(source, source.randrange(1, 6), source.randrange(1, 6), 2)
                answers = random_answers(source, sheet, source.choice([0.5, 1]))
                self.check_all_parts(expression, program, sheet, answers)
            self.assertEqual(program, before)

    def test_sheets_in_which_references_lead_nowhere(self):
        for text in TEXTS:
            expression = parse(text)
            program = compile_expression(expression)
            for sheet in ((1, 1, {}), (2, 1, {(0, 0): 5}), (12, 12, {(0, 0): ("number", 1)}), (1, 3, {})):
                self.check_all_parts(expression, program, sheet, {})
                self.check_all_parts(expression, program, sheet, random_answers(random.Random(1), sheet, 1))

    def test_results_are_new(self):
        program = compile_expression(parse("IF(A1,A1#,B1#)"))
        sheet = sheet_of(1, 2, A1="SEQ(2)", B1="1")
        expected = ("missing", asked("rows A1", "status A1", "rows B1", "status B1", "shown A1"))
        for _ in range(2):
            outcome = run_program(program, ("rows",), sheet, {})
            self.assertEqual(outcome, expected)
            outcome[1].clear()
        for text in ("5", "A1:B1+A1:B1", "SEQ(13)", "TAKE(A1,1)", "STACK(A1,B1)", "D5"):
            program = compile_expression(parse(text))
            for part in SIZES:
                self.assertIsNot(run_program(program, part, sheet, {}), run_program(program, part, sheet, {}))

    def test_whole_sheets(self):
        source = random.Random(16)
        undecided = 0
        for number in range(120):
            rows, columns = source.randrange(1, 5), source.randrange(1, 5)
            if number % 2:
                sheet = random_spilling_sheet(source, rows, columns, source.randrange(1, 7))
            else:
                sheet = random_sheet(source, rows, columns, 4)
            state = slow_settle(sheet)
            self.assertEqual(state, settle(sheet), msg=sheet)
            undecided += len(questions_of(sheet, state)) - len(state)
        self.assertGreater(undecided, 50)

    def test_the_running_totals_of_the_overview(self):
        sheet = sheet_of(6, 2, A1=0, A2="B2:B6+A1:A5", B2=3, B3=1, B4=4, B5=1, B6=5)
        self.assertEqual(slow_settle(sheet), settle(sheet))


class RecursionTest(RunProgramTestCase):
    def watched(self, expression, part, sheet, answers):
        program = compile_expression(expression)
        with DeepestStack() as stack:
            outcome = run_program(program, part, sheet, answers)
        self.assertEqual(stack.twice, set())
        self.assertEqual(outcome, evaluate(expression, part, sheet, answers))
        return stack.most

    def test_no_function_is_active_twice(self):
        source = random.Random(17)
        sheet = sheet_of(4, 4, A1="SEQ(2)", B2="A1")
        for text in TEXTS:
            for part in SIZES + (("element", 0, 0),):
                for share in (0.7, 1):
                    self.watched(parse(text), part, sheet, random_answers(source, sheet, share))
        for _ in range(60):
            expression = random_expression(source, source.randrange(2, 8), 3)
            for part in SIZES + (("element", 0, 0),):
                self.watched(expression, part, sheet, random_answers(source, sheet, 0.9))

    def test_deep_expressions_need_no_deeper_calls(self):
        for wrap in (lambda part: ("negate", part), lambda part: ("call", "SORT", (part,)),
                     lambda part: ("call", "IF", (part, part, ("number", 2))),
                     lambda part: ("binary", "+", part, ("number", 1)),
                     lambda part: ("call", "SUM", (part,))):
            depths = [self.watched(nested(depth, wrap, ("cell", 0, 0)), ("element", 0, 0), (1, 1, {}),
                                   shown(A1=1)) for depth in (2, 11)]
            self.assertEqual(depths[0], depths[1])
            self.assertLess(depths[0], 12)

    def test_a_low_recursion_limit(self):
        expression = nested(200, lambda part: ("negate", part), ("cell", 0, 0))
        program = compile_expression(expression)
        here = 0
        frame = sys._getframe()
        while frame is not None:
            here, frame = here + 1, frame.f_back
        limit = sys.getrecursionlimit()
        sys.setrecursionlimit(here + 40)
        try:
            outcome = run_program(program, ("element", 0, 0), (1, 1, {}), {("shown", (0, 0)): 5})
        finally:
            sys.setrecursionlimit(limit)
        self.assertEqual(outcome, ("answer", 5))

    def test_naive_evaluation_would_take_exponential_time(self):
        started = time.perf_counter()
        for wrap in (lambda part: ("call", "IFERROR", (part, part)),
                     lambda part: ("call", "IF", (part, part, part)),
                     lambda part: ("binary", "+", part, part),
                     lambda part: ("call", "FILTER", (part, part)),
                     lambda part: ("call", "STACK", (part, part))):
            expression = nested(9, wrap, ("cell", 0, 0))
            program = compile_expression(expression)
            for answers in ({}, shown(A1=1), shown(A1="#DIV")):
                self.check_all_parts(expression, program, (1, 1, {}), answers)
        self.assertLess(time.perf_counter() - started, 30)


if __name__ == "__main__":
    unittest.main()
