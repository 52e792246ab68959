"""Rules with random answers, right or wrong, against the document word by word."""

import copy
import random
import unittest

from spillsheet.rules import apply_rule, questions_of
from tests.random_expressions import random_answers, random_sheet, random_spilling_sheet
from tests.reference import reference_questions, reference_rule


class RandomRulesTest(unittest.TestCase):
    def is_asked_inside(self, sheet, answers, question):
        """Whether an element is inside what the rules for rows and columns return."""
        if question[0] != "element":
            return True
        for kind, place in (("rows", question[2]), ("columns", question[3])):
            outcome, size = reference_rule(sheet, answers, (kind, question[1]))
            if outcome == "answer" and place >= size:
                return False
        return True

    def check(self, sheet, answers):
        before = copy.deepcopy((sheet, answers))
        questions = questions_of(sheet, answers)
        self.assertEqual(questions, reference_questions(sheet, answers))
        counts = {"answer": 0, "missing": 0}
        for question in questions:
            if self.is_asked_inside(sheet, answers, question):
                expected = reference_rule(sheet, answers, question)
                outcome = apply_rule(sheet, answers, question)
                self.assertEqual(outcome, expected, msg=(sheet, answers, question))
                self.assertIs(type(outcome[1]), type(expected[1]))
                counts[outcome[0]] += 1
        self.assertEqual((sheet, answers), before)
        return counts

    def test_random_sheets_with_random_answers(self):
        source = random.Random(99)
        answered = missing = 0
        for number in range(800):
            rows, columns = source.randrange(1, 6), source.randrange(1, 6)
            if number % 3:
                sheet = random_spilling_sheet(source, rows, columns, source.randrange(1, 8))
            else:
                sheet = random_sheet(source, rows, columns, 3)
            counts = self.check(sheet, random_answers(source, sheet, source.choice([0, 0.3, 0.7, 0.95, 1])))
            answered += counts["answer"]
            missing += counts["missing"]
        self.assertGreater(answered, 3000)
        self.assertGreater(missing, 1000)


if __name__ == "__main__":
    unittest.main()
