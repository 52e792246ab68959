"""Evaluating a part of an expression from the answers that are known."""

from spillsheet.missing import outcome_of
from spillsheet.nodes import Source
from spillsheet.trees import node_of


def evaluate(expression, part, sheet, answers):
    """A part of an expression: ("answer", value) or ("missing", questions)."""
    node = node_of(expression, Source(sheet, answers))
    if part[0] == "element":
        return outcome_of(node.element, part[1], part[2])
    return outcome_of(node.value, part[0])
