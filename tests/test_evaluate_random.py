"""Random expressions with random answers, against the document word by word."""

import copy
import random
import unittest

from spillsheet.evaluate import evaluate
from tests.random_expressions import random_answers, random_expression, random_sheet
from tests.reference import reference_part


class RandomEvaluationTest(unittest.TestCase):
    def check(self, expression, part, sheet, answers):
        expected = reference_part(expression, part, sheet, answers)
        outcome = evaluate(expression, part, sheet, answers)
        self.assertEqual(outcome, expected, msg=(expression, part, sheet, answers))
        self.assertIs(type(outcome[1]), type(expected[1]))
        if outcome[0] == "missing":
            self.assertEqual(len(set(outcome[1])), len(outcome[1]))
            self.assertGreater(len(outcome[1]), 0)
            self.assertFalse(any(question in answers for question in outcome[1]))
        return outcome

    def check_all_parts(self, expression, sheet, answers):
        sizes = []
        for part in (("rows",), ("columns",)):
            kind, found = self.check(expression, part, sheet, answers)
            sizes.append(found if kind == "answer" else 2)
        kind, _ = self.check(expression, ("failure",), sheet, answers)
        for i in range(sizes[0]):
            for j in range(sizes[1]):
                self.check(expression, ("element", i, j), sheet, answers)
        return kind

    def test_random_expressions(self):
        source = random.Random(20261120)
        kinds = []
        for _ in range(6000):
            rows, columns = source.randrange(2, 7), source.randrange(2, 7)
            sheet = random_sheet(source, rows, columns, 1)
            answers = random_answers(source, sheet, source.choice([0.3, 0.6, 0.9, 0.97, 1]))
            size = max(1, min(rows, columns) - 1)
            expression = random_expression(source, source.randrange(1, 5), size)
            before = copy.deepcopy((expression, sheet, answers))
            kinds.append(self.check_all_parts(expression, sheet, answers))
            self.assertEqual((expression, sheet, answers), before)
        self.assertGreater(kinds.count("missing"), 100)
        self.assertGreater(kinds.count("answer"), 100)

    def test_more_answers_change_no_answer(self):
        source = random.Random(5)
        for _ in range(1500):
            sheet = random_sheet(source, 4, 4, 1)
            answers = random_answers(source, sheet, 1)
            expression = random_expression(source, source.randrange(2, 5), 3)
            questions = list(answers)
            source.shuffle(questions)
            # Rows and columns go first, because what is spilled must have them.
            questions.sort(key=lambda question: question[0] not in ("rows", "columns"))
            known, found = {}, {}
            for question in [None] + questions:
                if question is not None:
                    known[question] = answers[question]
                for part in (("rows",), ("columns",), ("failure",), ("element", 0, 0)):
                    outcome = evaluate(expression, part, sheet, known)
                    if part in found:
                        self.assertEqual(outcome, found[part], msg=(expression, part, known))
                    elif outcome[0] == "answer":
                        found[part] = outcome
            self.assertEqual(len(found), 4)


if __name__ == "__main__":
    unittest.main()
