"""The questions of a sheet and the rules that answer them."""

from spillsheet.grid import area_at
from spillsheet.missing import MissingAnswers, outcome_of
from spillsheet.nodes import Source
from spillsheet.questions import element_questions
from spillsheet.room import (
    formulas_reaching, has_other_content, is_covering, is_out_of_the_way,
)
from spillsheet.sheets import formulas_of, grid_cells, is_area_inside, is_formula
from spillsheet.trees import node_of


def questions_of(sheet, answers):
    """The list of the questions of the sheet under the answers, in ascending order."""
    found = [("shown", cell) for cell in grid_cells(sheet)]
    for cell in formulas_of(sheet):
        found.extend([("rows", cell), ("columns", cell), ("status", cell)])
        found.extend(element_questions(answers, cell))
    return sorted(found)


def apply_rule(sheet, answers, question):
    """What the rule for a question of the sheet returns."""
    return Rules(sheet, answers).apply(question)


class Rules:
    """The rules of one sheet, applied to answers that may become more, but do not change."""

    def __init__(self, sheet, answers):
        self.whole_sheet = sheet
        self.answers = answers
        self.source = Source(sheet, answers)
        self.formula_nodes = {}
        self.reaching = {}

    def apply(self, question):
        """What the rule for a question returns: ("answer", value) or ("missing", questions)."""
        self.source.forget_missing()
        return outcome_of(self._answer_to, question)

    def _answer_to(self, question):
        """The answer to a question; raises MissingAnswers."""
        kind = question[0]
        cell = question[1]
        if kind == "status":
            return self._status_of(cell)
        if kind == "shown":
            return self._shown_in(cell)
        if kind == "element":
            return self._node_in(cell).element(question[2], question[3])
        return self._node_in(cell).value(kind)

    def _node_in(self, cell):
        """The node of the formula in a cell."""
        if cell not in self.formula_nodes:
            _, _, contents = self.whole_sheet
            self.formula_nodes[cell] = node_of(contents[cell], self.source)
        return self.formula_nodes[cell]

    def _status_of(self, cell):
        """Whether a formula is single, spilled or blocked."""
        rows = self.source.answer(("rows", cell))
        columns = self.source.answer(("columns", cell))
        if rows == 1 and columns == 1:
            return "single"
        area = area_at(cell, rows, columns)
        if not is_area_inside(self.whole_sheet, area) or has_other_content(self.whole_sheet, area, cell):
            return "blocked"
        rivals = self._rivals_in_first_row(area)
        for formula, place in rivals:
            if is_covering(self.answers, formula, place):
                return "blocked"
        self._wait_for(rivals, ("rows", "status"))
        return "spilled"

    def _rivals_in_first_row(self, area):
        """The formulas that can come down into the first row of an area, with the cells there."""
        top, left, _, right = area
        places = [(top, column) for column in range(left + 1, right + 1)]
        rivals = [
            (formula, place)
            for place in places
            for formula in self._reaching(place)
            if formula[1] == place[1]
        ]
        return sorted(rivals)

    def _shown_in(self, cell):
        """The scalar that a cell shows."""
        _, _, contents = self.whole_sheet
        content = contents.get(cell)
        if content is None:
            return self._shown_in_empty(cell)
        if not is_formula(content):
            return content
        if self.source.answer(("status", cell)) == "blocked":
            return "#SPILL"
        return self.source.answer(("element", cell, 0, 0))

    def _shown_in_empty(self, cell):
        """The scalar that spills into an empty cell, or a blank."""
        rivals = [(formula, cell) for formula in self._reaching(cell)]
        for formula, _ in rivals:
            if is_covering(self.answers, formula, cell):
                row, column = formula
                return self.source.answer(("element", formula, cell[0] - row, cell[1] - column))
        self._wait_for(rivals, ("rows", "columns", "status"))
        return None

    def _reaching(self, cell):
        """The formulas that can reach a cell, found only once."""
        if cell not in self.reaching:
            self.reaching[cell] = formulas_reaching(self.whole_sheet, cell)
        return self.reaching[cell]

    def _wait_for(self, rivals, kinds):
        """Raises MissingAnswers unless all these formulas are out of the way of their cells."""
        waiting = [
            formula
            for formula, place in rivals
            if not is_out_of_the_way(self.answers, formula, place)
        ]
        questions = [(kind, formula) for formula in waiting for kind in kinds]
        missing = [question for question in questions if question not in self.answers]
        if len(missing) > 0:
            raise MissingAnswers(missing)
