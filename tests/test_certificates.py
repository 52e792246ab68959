"""Derivations, waiting chains, waiting sets and complete states in spillsheet.certificates."""

import copy
import itertools
import random
import time
import unittest

from spillsheet.certificates import (
    check_derivation, check_waiting_set, derivation, is_complete_state, waiting_chain, waiting_set,
)
from spillsheet.errors import NotUndecided
from spillsheet.parser import parse
from spillsheet.rules import apply_rule, questions_of
from spillsheet.settle import settle
from tests.answers import asked, result_of, shown
from tests.random_expressions import random_spilling_sheet
from tests.reference import reference_questions, reference_rule
from tests.samples import any_values
from tests.test_rules import sheet_of

CODES = ["#DIV", "#EMPTY", "#NUM", "#REF", "#SHAPE", "#SIZE", "#SPILL"]
EMPTY = (1, 1, {})
# Undecided: who of the two spills depends on what they show.
KNOT = sheet_of(3, 3, B1="SEQ(1+C2)", A2="SEQ(1,3)")
CIRCLE = sheet_of(1, 2, A1="B1", B1="A1")


def random_sheets(seed, count, rows=3, columns=4):
    source = random.Random(seed)
    for _ in range(count):
        yield source, random_spilling_sheet(source, rows, columns, source.randrange(1, 7))


def undecided_questions(sheet):
    state = settle(sheet)
    return [question for question in questions_of(sheet, state) if question not in state]


def slow_check(sheet, steps):
    """check_derivation once more, for steps of the right form, one rule after the other."""
    answers = {}
    for at, (question, answer) in enumerate(steps):
        allowed = question in reference_questions(sheet, answers) and question not in answers
        if not allowed or reference_rule(sheet, answers, question) != ("answer", answer):
            return at
        answers[question] = answer
    for question in reference_questions(sheet, answers):
        if question not in answers and reference_rule(sheet, answers, question)[0] == "answer":
            return len(steps)
    return None


def random_derivation(source, sheet):
    """A complete derivation in a random order."""
    answers = {}
    while True:
        ready = []
        for question in reference_questions(sheet, answers):
            if question not in answers:
                kind, found = reference_rule(sheet, answers, question)
                if kind == "answer":
                    ready.append((question, found))
        if not ready:
            return list(answers.items())
        for question, found in source.sample(ready, source.randrange(1, len(ready) + 1)):
            answers[question] = found


class DerivationTest(unittest.TestCase):
    def check(self, sheet, steps, expected):
        before = copy.deepcopy((sheet, steps))
        result = check_derivation(sheet, steps)
        self.assertEqual(result, expected, msg=repr(steps)[:300])
        self.assertIs(type(result), type(expected))
        self.assertEqual((sheet, steps), before)

    def test_the_examples_of_the_document(self):
        self.check(EMPTY, [(("shown", (0, 0)), None)], None)
        self.check(EMPTY, [], 0)

    def test_arguments_by_name(self):
        steps = derivation(sheet=EMPTY)
        self.assertEqual(steps, [(("shown", (0, 0)), None)])
        self.assertIsNone(check_derivation(steps=steps, sheet=EMPTY))

    def test_derivations_are_complete_and_new(self):
        for sheet in (EMPTY, KNOT, CIRCLE, sheet_of(2, 2, A1="SEQ(2,2)"), sheet_of(1, 1, A1=3)):
            before = copy.deepcopy(sheet)
            steps = derivation(sheet)
            self.assertIs(type(steps), list)
            for step in steps:
                self.assertIs(type(step), tuple)
                self.assertEqual(len(step), 2)
            self.assertEqual(dict(steps), settle(sheet))
            self.assertEqual(len(dict(steps)), len(steps))
            self.check(sheet, steps, None)
            steps.append("changed")
            self.assertEqual(derivation(sheet), steps[:-1])
            self.assertEqual(sheet, before)

    def test_derivations_of_random_sheets(self):
        for source, sheet in random_sheets(11, 60):
            steps = derivation(sheet)
            self.assertIsNone(slow_check(sheet, steps))
            self.check(sheet, steps, None)
            other = random_derivation(source, sheet)
            self.assertEqual(dict(other), dict(steps))
            self.check(sheet, other, None)
            for count in range(0, len(other), 7):
                self.check(sheet, other[:count], count)

    def test_steps_missing_doubled_and_exchanged(self):
        for source, sheet in random_sheets(12, 60):
            steps = random_derivation(source, sheet)
            for _ in range(10):
                changed = list(steps)
                at, other = source.randrange(len(steps)), source.randrange(len(steps))
                way = source.randrange(4)
                if way == 0:
                    del changed[at]
                elif way == 1:
                    changed.insert(other, steps[at])
                elif way == 2:
                    changed[at], changed[other] = changed[other], changed[at]
                else:
                    changed[at] = (changed[at][0], changed[other][1])
                self.check(sheet, changed, slow_check(sheet, changed))

    def test_a_doubled_step(self):
        sheet = sheet_of(1, 2, A1=5)
        first, second = (("shown", (0, 0)), 5), (("shown", (0, 1)), None)
        self.check(sheet, [first, second], None)
        self.check(sheet, [second, first], None)
        self.check(sheet, [first, first], 1)
        self.check(sheet, [first, second, first], 2)
        self.check(sheet, [first], 1)

    def test_wrong_answers(self):
        sheet = sheet_of(1, 2, A1=5)
        for answer in (4, None, "5", "#REF", "single", [5], (5,), {5: 5}, -5, 10 ** 50):
            self.check(sheet, [(("shown", (0, 0)), answer)], 0)
        for answer in (0, 1, "", "blank", "#SPILL", [], (), {}):
            self.check(sheet, [(("shown", (0, 0)), 5), (("shown", (0, 1)), answer)], 1)

    def test_bools_in_place_of_integers(self):
        sheet = sheet_of(2, 2, A1="1", B2=0)
        good = [
            (("rows", (0, 0)), 1), (("columns", (0, 0)), 1), (("element", (0, 0), 0, 0), 1),
            (("status", (0, 0)), "single"), (("shown", (0, 0)), 1), (("shown", (1, 1)), 0),
            (("shown", (0, 1)), None), (("shown", (1, 0)), None),
        ]
        self.check(sheet, good, None)
        for at, (question, answer) in enumerate(good):
            if answer in (0, 1):
                self.check(sheet, good[:at] + [(question, bool(answer))] + good[at + 1:], at)
            kind, (row, column), *places = question
            self.check(sheet, good[:at] + [((kind, (bool(row), column)) + tuple(places), answer)], at)
            self.check(sheet, good[:at] + [((kind, (row, bool(column))) + tuple(places), answer)], at)
        element = ("element", (0, 0), False, 0), 1
        self.check(sheet, good[:2] + [element], 2)
        element = ("element", (0, 0), 0, False), 1
        self.check(sheet, good[:2] + [element], 2)

    def test_questions_that_are_not_questions_of_the_sheet(self):
        sheet = sheet_of(2, 2, A1="SEQ(1,2)", A2=3)
        sizes = [(("rows", (0, 0)), 1), (("columns", (0, 0)), 2)]
        for question in [
            ("rows", (1, 0)), ("columns", (0, 1)), ("status", (1, 0)), ("element", (1, 0), 0, 0),
            ("shown", (2, 0)), ("shown", (0, 2)), ("shown", (-1, 0)), ("shown", (0, 0, 0)),
            ("shown", (0,)), ("shown",), ("shown", 0), ("shown", (0, 0), 0), ("rows", (0, 0), 0),
            ("element", (0, 0)), ("element", (0, 0), 0), ("element", (0, 0), 0, 0, 0),
            ("element", (0, 0), 1, 0), ("element", (0, 0), 0, 2), ("element", (0, 0), -1, 0),
            ("element", (0, 0), 0, -1), ("element", (0, 0), "0", 0), ("failure", (0, 0)), ("", (0, 0)),
            (0, (0, 0)), (None, (0, 0)), ("Rows", (0, 0)), ["shown", (1, 0)], ("shown", [1, 0]),
            (["shown"], (1, 0)), "shown", (), ("rows", "columns"), ((0, 0), "rows"),
        ]:
            for answer in (1, 2, 3, None, "#REF"):
                self.check(sheet, sizes + [(question, answer)], 2)
        self.check(sheet, sizes + [(("element", (0, 0), 0, 1), 2)], 3)
        # An element is a question only once rows and columns have answers.
        self.check(sheet, [(("element", (0, 0), 0, 0), 1)], 0)
        self.check(sheet, sizes[:1] + [(("element", (0, 0), 0, 0), 1)], 1)
        self.check(sheet, sizes[1:] + [(("element", (0, 0), 0, 0), 1)], 1)

    def test_answers_that_cannot_be_worked_out_yet(self):
        sheet = sheet_of(1, 2, A1="B1", B1=3)
        steps = [(("rows", (0, 0)), 1), (("columns", (0, 0)), 1), (("status", (0, 0)), "single"),
                 (("shown", (0, 1)), 3), (("element", (0, 0), 0, 0), 3), (("shown", (0, 0)), 3)]
        self.check(sheet, steps, None)
        self.check(sheet, steps[:3] + [steps[4], steps[3], steps[5]], 3)
        self.check(sheet, steps[:4] + [steps[5], steps[4]], 4)
        self.check(sheet, [steps[2]] + steps[:2], 0)

    def test_circles_cannot_be_derived(self):
        sheet = sheet_of(1, 1, A1="A1")
        steps = derivation(sheet)
        self.assertEqual(len(steps), 3)
        for answer in (0, 7, None, "#REF"):
            self.check(sheet, steps + [(("element", (0, 0), 0, 0), answer)], 3)
            self.check(sheet, steps + [(("shown", (0, 0)), answer)], 3)

    def test_steps_that_are_no_tuples_of_two(self):
        good = (("shown", (0, 0)), None)
        for step in [[("shown", (0, 0)), None], (("shown", (0, 0)),), (("shown", (0, 0)), None, None),
                     ("shown", (0, 0)), (), None, 0, "", "ab", {}, {("shown", (0, 0)): None}, True]:
            self.check(EMPTY, [step], 0)
            self.check(EMPTY, [good, step], 1)

    def test_any_values(self):
        for value in any_values():
            self.check(EMPTY, [value], 0)
            self.check(EMPTY, [(value, None)], 0)
            self.check(EMPTY, [(value, value)], 0)
            self.check(EMPTY, [(("shown", value), None)], None if value == (0, 0) else 0)
            self.check(EMPTY, [((value, (0, 0)), None)], 0)
            if value is not None:
                self.check(EMPTY, [(("shown", (0, 0)), value)], 0)
                self.check(EMPTY, [(("shown", (value, 0)), None)],
                           None if type(value) is int and value == 0 else 0)


class WaitingTest(unittest.TestCase):
    def check_refused(self, sheet, value):
        before = copy.deepcopy((sheet, value))
        for function in (waiting_chain, waiting_set):
            with self.assertRaises(NotUndecided, msg=repr(value)[:200]) as context:
                function(sheet, value)
            self.assertIs(context.exception.question, value)
        self.assertEqual((sheet, value), before)

    def test_the_examples_of_the_document(self):
        self.assertEqual(
            waiting_chain(KNOT, ("shown", (1, 2))),
            [("shown", (1, 2)), ("status", (1, 0)), ("rows", (0, 1)), ("shown", (1, 2))])
        self.assertEqual(
            waiting_set(CIRCLE, ("shown", (0, 0))),
            [("element", (0, 0), 0, 0), ("element", (0, 1), 0, 0), ("shown", (0, 0)),
             ("shown", (0, 1))])

    def test_arguments_by_name(self):
        question = ("shown", (0, 0))
        self.assertEqual(len(waiting_chain(question=question, sheet=CIRCLE)), 5)
        self.assertEqual(len(waiting_set(question=question, sheet=CIRCLE)), 4)
        self.assertIs(check_waiting_set(
            questions=waiting_set(CIRCLE, question), steps=derivation(CIRCLE), sheet=CIRCLE), True)

    def test_a_chain_that_runs_into_a_circle(self):
        sheet = sheet_of(1, 3, A1="B1", B1="C1", C1="B1")
        self.assertEqual(waiting_chain(sheet, ("shown", (0, 0))), asked(
            "shown A1", "element A1 0 0", "shown B1", "element B1 0 0", "shown C1", "element C1 0 0",
            "shown B1"))
        self.assertEqual(waiting_chain(sheet, ("shown", (0, 2))), asked(
            "shown C1", "element C1 0 0", "shown B1", "element B1 0 0", "shown C1"))
        self.assertEqual(waiting_set(sheet, ("shown", (0, 2))), asked(
            "element B1 0 0", "element C1 0 0", "shown B1", "shown C1"))
        self.assertEqual(len(waiting_set(sheet, ("element", (0, 0), 0, 0))), 5)

    def test_a_question_that_waits_for_itself(self):
        sheet = sheet_of(1, 1, A1="A1#")
        self.assertEqual(waiting_chain(sheet, ("rows", (0, 0))), [("rows", (0, 0))] * 2)
        self.assertEqual(waiting_chain(sheet, ("columns", (0, 0))), [("columns", (0, 0))] * 2)
        self.assertEqual(waiting_set(sheet, ("rows", (0, 0))), asked("rows A1", "status A1"))
        self.assertEqual(waiting_set(sheet, ("shown", (0, 0))),
                         asked("rows A1", "shown A1", "status A1"))

    def test_chains_and_sets_of_random_sheets(self):
        chains = 0
        for _, sheet in random_sheets(13, 120):
            state = settle(sheet)
            steps = derivation(sheet)
            for question in undecided_questions(sheet):
                before = copy.deepcopy(sheet)
                chain = waiting_chain(sheet, question)
                found = waiting_set(sheet, question)
                self.assertEqual(sheet, before)
                self.assertEqual(chain[0], question)
                self.assertEqual(len(set(chain)), len(chain) - 1)
                self.assertIn(chain[-1], chain[:-1])
                for one, following in zip(chain, chain[1:]):
                    kind, missing = apply_rule(sheet, state, one)
                    self.assertEqual((kind, missing[0]), ("missing", following))
                self.assertEqual(found, sorted(set(found)))
                needed = {question}
                for one in found:
                    needed |= set(apply_rule(sheet, state, one)[1])
                self.assertEqual(set(found), needed)
                self.assertTrue(set(chain) <= set(found))
                self.assertIs(check_waiting_set(sheet, steps, found), True)
                chains += 1
            everything = undecided_questions(sheet)
            self.assertIs(check_waiting_set(sheet, steps, everything), bool(everything))
        self.assertGreater(chains, 200)

    def test_the_lists_are_new(self):
        question = ("shown", (0, 0))
        for function in (waiting_chain, waiting_set):
            first = function(CIRCLE, question)
            self.assertIs(type(first), list)
            second = function(CIRCLE, question)
            second.append("changed")
            self.assertEqual(function(CIRCLE, question), first)

    def test_settled_questions(self):
        for sheet in (KNOT, CIRCLE, sheet_of(2, 2, A1="SEQ(2,2)"), EMPTY):
            for question in settle(sheet):
                self.check_refused(sheet, question)

    def test_questions_of_another_sheet(self):
        for question in asked("rows B2", "columns A1", "status C3", "element B2 0 0", "shown A4",
                              "shown D1", "element B1 0 0", "element A2 0 3", "element A2 1 0"):
            self.check_refused(KNOT, question)
        self.check_refused(CIRCLE, ("element", (0, 0), 0, 1))
        self.check_refused(CIRCLE, ("element", (0, 0), 1, 0))

    def test_values_of_other_kinds(self):
        for value in any_values():
            self.check_refused(KNOT, value)
            self.check_refused(CIRCLE, value)
            self.check_refused(KNOT, ("shown", value))
            self.check_refused(KNOT, (value, (1, 2)))
            self.check_refused(CIRCLE, ("element", (0, 0), 0, value) if value != 0 or value is False
                               else ("element", (0, 0), 0))
        for value in [
            ["shown", (1, 2)], ("shown", [1, 2]), (["shown"], (1, 2)), ("shown", (1, 2), 0),
            ("shown", (True, 2)), {"shown": (1, 2)}, ("shown", ((1, 2),)), "shown B2", ("shown",),
            ("shown", (1, "2")), ("shown", (1, 2), None), (("shown", (1, 2)),),
        ]:
            self.check_refused(KNOT, value)
        for value in [("shown", (False, 0)), ("shown", (0, True)), ("element", (0, 0), False, 0),
                      ("element", (0, 0), 0, False), ("element", (0, 0), 0), ("element", (0, 0)),
                      ("element", (0, 0), [0], 0), ("element", (0, 0), 0, {})]:
            self.check_refused(CIRCLE, value)


class CheckWaitingSetTest(unittest.TestCase):
    def check(self, sheet, steps, questions, expected):
        before = copy.deepcopy((sheet, steps, questions))
        self.assertIs(check_waiting_set(sheet, steps, questions), expected, msg=repr(questions)[:300])
        self.assertEqual((sheet, steps, questions), before)

    def setUp(self):
        self.steps = derivation(CIRCLE)
        self.closed = asked("element A1 0 0", "element B1 0 0", "shown A1", "shown B1")

    def test_in_any_order(self):
        for questions in itertools.permutations(self.closed):
            self.check(CIRCLE, self.steps, list(questions), True)

    def test_an_empty_list_is_not_closed(self):
        self.check(CIRCLE, self.steps, [], False)
        self.check(EMPTY, [], [], False)

    def test_repetitions(self):
        self.check(CIRCLE, self.steps, self.closed + self.closed[:1], False)
        self.check(CIRCLE, self.steps, self.closed * 2, False)

    def test_lists_that_are_not_closed(self):
        for at in range(4):
            self.check(CIRCLE, self.steps, self.closed[:at] + self.closed[at + 1:], False)

    def test_every_missing_question_must_be_in_the_list(self):
        # A3 waits for two formulas in the circle, and for the rows and the status of each.
        sheet = sheet_of(3, 3, B1="SEQ(1+C3)", C1="SEQ(1+C3)", A3="SEQ(1,3)")
        steps = derivation(sheet)
        found = waiting_set(sheet, ("status", (2, 0)))
        self.check(sheet, steps, found, True)
        for question in found:
            self.check(sheet, steps, [other for other in found if other != question], False)

    def test_questions_with_answers(self):
        self.check(CIRCLE, self.steps, self.closed + asked("rows A1"), False)
        self.check(CIRCLE, self.steps, asked("rows A1"), False)

    def test_questions_whose_rule_returns_an_answer(self):
        steps = [step for step in self.steps if step[0] != ("status", (0, 1))]
        self.check(CIRCLE, steps, asked("status B1"), False)
        self.check(CIRCLE, steps, self.closed + asked("status B1"), False)
        # Steps need not be complete, but here the list does not have what they lack.
        self.check(CIRCLE, steps, self.closed, False)
        self.check(CIRCLE, [], asked("status A1"), False)
        self.check(CIRCLE, [], asked("rows A1"), False)
        self.check(CIRCLE, self.steps[:1], self.closed + asked("rows A1"), False)
        self.check(EMPTY, [], asked("shown A1"), False)
        self.check(sheet_of(1, 1, A1=0), [], asked("shown A1"), False)

    def test_steps_need_not_be_complete(self):
        sheet = sheet_of(1, 3, A1="B1", B1="A1", C1=5)
        steps = [step for step in derivation(sheet) if step[0] != ("shown", (0, 2))]
        self.check(sheet, steps, self.closed, True)
        self.check(sheet, derivation(sheet), self.closed, True)

    def test_steps_that_are_not_correct(self):
        self.check(CIRCLE, self.steps + self.steps[:1], self.closed, False)
        self.check(CIRCLE, self.steps + [(("shown", (0, 0)), 5)], self.closed, False)
        self.check(CIRCLE, self.steps[::-1], self.closed, False)
        self.check(CIRCLE, [(question, True) for question, _ in self.steps], self.closed, False)
        for value in any_values():
            self.check(CIRCLE, self.steps + [value], self.closed, False)
            self.check(CIRCLE, [value] + self.steps, self.closed, False)

    def test_questions_of_any_values(self):
        for value in any_values():
            self.check(CIRCLE, self.steps, [value], False)
            self.check(CIRCLE, self.steps, self.closed + [value], False)
            self.check(CIRCLE, self.steps, [value] + self.closed, False)
            self.check(CIRCLE, self.steps, self.closed + [("shown", value)], False)
        for value in [("shown", (False, 0)), ("shown", (0, True)), ("element", (0, 0), False, 0),
                      ["shown", (0, 0)], ("shown", [0, 0]), ("shown", (0, 2)), ("rows", (0, 2))]:
            self.check(CIRCLE, self.steps, self.closed[:3] + [value], False)
            self.check(CIRCLE, self.steps, self.closed + [value], False)

    def test_elements_are_questions_only_under_the_steps(self):
        steps = [step for step in self.steps if step[0] != ("rows", (0, 0))]
        self.check(CIRCLE, steps, self.closed, False)

    def test_no_question_of_a_closed_list_is_settled(self):
        for source, sheet in random_sheets(14, 60):
            state = settle(sheet)
            steps = derivation(sheet)
            count = source.randrange(len(steps) + 1)
            answers = dict(steps[:count])
            open_questions = [question for question in questions_of(sheet, answers)
                              if question not in answers]
            # The greatest closed list: leave out what has an answer or needs something else.
            while True:
                kept = []
                for question in open_questions:
                    kind, found = apply_rule(sheet, answers, question)
                    if kind == "missing" and all(needed in open_questions for needed in found):
                        kept.append(question)
                if kept == open_questions:
                    break
                open_questions = kept
            self.check(sheet, steps[:count], open_questions, bool(open_questions))
            self.assertFalse(any(question in state for question in open_questions))


class CompleteStateTest(unittest.TestCase):
    def check(self, sheet, state, expected):
        before = copy.deepcopy((sheet, state))
        self.assertIs(is_complete_state(sheet, state), expected, msg=repr(state)[:400])
        self.assertEqual((sheet, state), before)

    def single(self, scalar):
        """A state of a sheet with one formula in its one cell."""
        return result_of("A1", 1, 1, "single") | {("element", (0, 0), 0, 0): scalar,
                                                  ("shown", (0, 0)): scalar}

    def test_the_example_of_the_document(self):
        state = {("rows", (0, 0)): 1, ("columns", (0, 0)): 1, ("status", (0, 0)): "single",
                 ("element", (0, 0), 0, 0): 7, ("shown", (0, 0)): 7}
        self.assertIs(is_complete_state((1, 1, {(0, 0): ("cell", 0, 0)}), state), True)

    def test_arguments_by_name(self):
        self.assertIs(is_complete_state(state={("shown", (0, 0)): None}, sheet=EMPTY), True)

    def test_more_than_one_complete_state(self):
        sheet = sheet_of(1, 1, A1="A1")
        for scalar in [0, 1, -5, 10 ** 9, None] + CODES:
            self.check(sheet, self.single(scalar), True)
        for scalar in ["", "single", 10 ** 9 + 1, [], (), {}, True, False, "#N/A"]:
            self.check(sheet, self.single(scalar), False)

    def test_one_complete_state(self):
        sheet = sheet_of(1, 1, A1="IF(COUNT(A1),5,5)")
        for scalar in [0, 1, 5, 6, None] + CODES:
            self.check(sheet, self.single(scalar), scalar == 5)
        sheet = sheet_of(1, 1, A1="IFERROR(A1,0)*0")
        for scalar in [0, 1, None] + CODES:
            self.check(sheet, self.single(scalar), scalar == 0)

    def test_no_complete_state(self):
        sheet = sheet_of(1, 1, A1="IF(COUNT(A1),#REF,1)")
        for scalar in [0, 1, 2, -1, None] + CODES:
            self.check(sheet, self.single(scalar), False)

    def test_two_complete_states_of_a_knot(self):
        # Whoever spills, the state is consistent.
        sheet = sheet_of(2, 2, B1="IFERROR(SEQ(2-COUNT(B2)),0)", A2="SEQ(1,2)")
        states = []
        for rows in (1, 2):
            for status in ("spilled", "blocked"):
                state = result_of("B1", rows, 1, "single" if rows == 1 else "spilled",
                                  [[1], [2]][:rows])
                state |= result_of("A2", 1, 2, status, [[1, 2]])
                state |= shown(A1=None, B1=1, A2=1 if status == "spilled" else "#SPILL", B2=2)
                if is_complete_state(sheet, state):
                    states.append(rows)
        self.assertEqual(states, [1])

    def test_settled_states_without_undecided_questions(self):
        complete = 0
        for source, sheet in random_sheets(15, 150):
            state = settle(sheet)
            undecided = undecided_questions(sheet)
            self.check(sheet, state, not undecided)
            if undecided:
                continue
            complete += 1
            for question in source.sample(list(state), min(8, len(state))):
                other = {key: state[key] for key in state if key != question}
                self.check(sheet, other, False)
                for answer in (1, 2, 12, None, "#REF", "single", "spilled", "blocked", [], True, 13,
                               0, (), {}, 10 ** 40):
                    if answer is not True and answer == state[question]:
                        continue
                    self.check(sheet, state | {question: answer}, False)
        self.assertGreater(complete, 50)

    def test_settled_questions_have_their_answers_in_every_complete_state(self):
        sheet = sheet_of(1, 2, A1="A1", B1="3")
        state = self.single(4) | result_of("B1", 1, 1, "single", [[3]]) | shown(B1=3)
        self.check(sheet, state, True)
        self.check(sheet, state | shown(B1=4), False)
        self.check(sheet, state | shown(B1=4) | result_of("B1", listed=[[4]]), False)

    def test_answers_missing(self):
        sheet = sheet_of(1, 2, A1="SEQ(1,2)")
        state = settle(sheet)
        self.check(sheet, state, True)
        self.check(sheet, {}, False)
        for count in range(1, 3):
            for left_out in itertools.combinations(state, count):
                self.check(sheet, {key: state[key] for key in state if key not in left_out}, False)

    def test_answers_too_many(self):
        sheet = sheet_of(1, 2, A1="SEQ(1,2)")
        state = settle(sheet)
        for question in [
            ("element", (0, 0), 0, 2), ("element", (0, 0), 1, 0), ("element", (0, 1), 0, 0),
            ("rows", (0, 1)), ("shown", (1, 0)), ("shown", (0, 2)), ("failure", (0, 0)), ("shown",),
            "shown", 0, None, (), ("shown", (0, 0), 0), ("rows", (0, 0), 1), (("rows", (0, 0)),),
        ]:
            for answer in (None, 1, "single", []):
                self.check(sheet, state | {question: answer}, False)

    def test_a_wrong_size_with_which_everything_else_agrees(self):
        sheet = sheet_of(2, 2, A1="7")
        for rows, columns in [(1, 1), (1, 2), (2, 1), (2, 2)]:
            status = "single" if rows == columns == 1 else "spilled"
            state = result_of("A1", rows, columns, status, [[7] * columns] * rows)
            state |= shown(A1=7, B1=7 if columns == 2 else None, A2=7 if rows == 2 else None,
                           B2=7 if rows == columns == 2 else None)
            self.check(sheet, state, rows == columns == 1)

    def test_a_result_that_is_too_large_for_its_rule(self):
        sheet = sheet_of(3, 3, A1="FILTER(A2:A3,B2:B3)", A2=1, A3=2, B2=1, B3=1)
        state = settle(sheet)
        larger = state | {("rows", (0, 0)): 5}
        larger |= {("element", (0, 0), i, 0): 1 for i in range(5)}
        self.check(sheet, larger, False)
        # Also where the elements stand before the rows in the dict.
        self.check(sheet, {key: larger[key] for key in sorted(larger)}, False)
        for text in ("SORT(A2:A3)", "TAKE(A2:A3,-1)", "DROP(A2:A3,1)", "STACK(A2,A3)", "SEQ(2)",
                     "A2:A3", "TRANSPOSE(A2:A3)", "INDEX(A2:A3,1,1)"):
            sheet = sheet_of(3, 3, C1=text, A2=1, A3=2)
            self.check(sheet, settle(sheet), True)
            for rows, columns in [(12, 12), (3, 1), (1, 3), (2, 2), (1, 1), (3, 3)]:
                elements = [[1] * columns] * rows
                wrong = {key: answer for key, answer in settle(sheet).items() if key[0] != "element"}
                wrong |= result_of("C1", rows, columns, None, elements)
                if wrong != settle(sheet):
                    self.check(sheet, wrong, False)
                    self.check(sheet, {key: wrong[key] for key in sorted(wrong)}, False)
                    self.check(sheet, {key: wrong[key] for key in sorted(wrong)[::-1]}, False)

    def test_bools_in_place_of_integers(self):
        sheet = sheet_of(2, 2, B2="1", A1=0)
        state = settle(sheet)
        self.check(sheet, state, True)
        for question in state:
            if state[question] in (0, 1) and state[question] is not None:
                self.check(sheet, state | {question: bool(state[question])}, False)
            kind, (row, column), *places = question
            for cell in ((bool(row), column), (row, bool(column))):
                replaced = {key: answer for key, answer in state.items() if key != question}
                replaced[(kind, cell) + tuple(places)] = state[question]
                self.check(sheet, replaced, False)
        for places in ((False, 0), (0, False)):
            replaced = {key: answer for key, answer in state.items() if key[0] != "element"}
            replaced[("element", (1, 1)) + places] = 1
            self.check(sheet, replaced, False)

    def test_keys_and_values_of_any_kind(self):
        sheet = sheet_of(1, 1, A1="SEQ(1)")
        state = settle(sheet)
        self.check(sheet, state, True)
        for value in any_values():
            for question in state:
                expected = type(value) is int and value == state[question]
                self.check(sheet, state | {question: value}, expected)
            try:
                hash(value)
            except TypeError:
                continue
            self.check(sheet, {value: None}, False)
            self.check(sheet, state | {value: None}, False)
            self.check(sheet, state | {("shown", value): 1}, value == (0, 0))
            self.check(sheet, state | {("element", (0, 0), value, 0): 1},
                       isinstance(value, int) and value == 0)

    def test_random_states_of_small_sheets(self):
        """All assignments of a few scalars to the elements that are undecided."""
        for text, other in [("B1", "A1"), ("-B1", "A1"), ("1-B1", "A1"), ("B1+1", "A1"),
                            ("IFERROR(B1,1)", "A1"), ("COUNT(B1)", "1-A1"), ("B1", "1-A1"),
                            ("B1<1", "A1<1"), ("IF(B1,1,2)", "IF(A1,2,0)")]:
            sheet = sheet_of(1, 2, A1=text, B1=other)
            for first, second in itertools.product([0, 1, 2, -1, None, "#REF", "#NUM"], repeat=2):
                state = result_of("A1", 1, 1, "single", [[first]]) | shown(A1=first)
                state |= result_of("B1", 1, 1, "single", [[second]]) | shown(B1=second)
                expected = all(reference_rule(sheet, state, question) == ("answer", state[question])
                               for question in state)
                self.check(sheet, state, expected)


class LargeSheetsTest(unittest.TestCase):
    def test_certificates_of_full_sheets_in_reasonable_time(self):
        started = time.perf_counter()
        for text in ("SEQ(12,12)", "SORT(SEQ(12,12)*A1)+SUM(A1:L12)", "SUM(A1:L12)", "A1#", "A1:L12"):
            content = parse(text)
            sheet = (12, 12, {(row, column): content for row in range(12) for column in range(12)})
            steps = derivation(sheet)
            self.assertIsNone(check_derivation(sheet, steps))
            if steps:
                self.assertEqual(check_derivation(sheet, steps[:-1]), len(steps) - 1)
            undecided = undecided_questions(sheet)
            self.assertIs(is_complete_state(sheet, dict(steps)), not undecided)
            for question in undecided[:3]:
                waiting_chain(sheet, question)
                found = waiting_set(sheet, question)
                self.assertIs(check_waiting_set(sheet, steps, found), True)
            self.assertIs(check_waiting_set(sheet, steps, undecided), bool(undecided))
        self.assertLess(time.perf_counter() - started, 60)


if __name__ == "__main__":
    unittest.main()
