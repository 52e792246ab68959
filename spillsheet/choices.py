"""Functions that choose one of two branches, when they are evaluated."""

from spillsheet.missing import MissingAnswers, joined, outcome_of
from spillsheet.nodes import Node
from spillsheet.scalars import is_error


class Choice(Node):
    """What IF and IFERROR have in common: branches, the two nodes to choose from.

    Each of them has its own chosen, which returns a branch, or None if there is no choice.
    """

    def __init__(self, source, operands, branches):
        Node.__init__(self, source, operands)
        self.branches = branches

    def plain_rows(self):
        """The rows of the chosen branch."""
        return self._plain_size("rows")

    def plain_columns(self):
        """The columns of the chosen branch."""
        return self._plain_size("columns")

    def plain_element(self, i, j):
        """The element of the chosen branch."""
        return self.chosen().element(i, j)

    def _plain_size(self, part):
        """The rows or columns, which may be known before the choice is."""
        first, second = self.branches
        first_kind, first_found = outcome_of(first.value, part)
        second_kind, second_found = outcome_of(second.value, part)
        questions = []
        if first_kind == "missing":
            questions.append(first_found)
        if second_kind == "missing":
            questions.append(second_found)
        if len(questions) == 0 and first_found == second_found:
            return first_found
        kind, found = outcome_of(self.chosen)
        if kind == "missing":
            raise MissingAnswers(joined(questions + [found]))
        if found is None:
            return 1
        return found.value(part)


class Condition(Choice):
    """IF."""

    def __init__(self, source, operands):
        Choice.__init__(self, source, operands, operands[1:])

    def find_failure(self):
        """The condition must not be an error code, and the chosen branch must have a result."""
        condition = self.operands[0].scalar()
        if is_error(condition):
            return condition
        return self.chosen().failure()

    def chosen(self):
        """The branch that the condition chooses, or None if the condition is an error code."""
        condition = self.operands[0].scalar()
        if is_error(condition):
            return None
        if condition != 0:
            return self.branches[0]
        return self.branches[1]


class Replacement(Choice):
    """IFERROR."""

    def __init__(self, source, operands):
        Choice.__init__(self, source, operands, operands)

    def find_failure(self):
        """The failure of the chosen branch."""
        return self.chosen().failure()

    def chosen(self):
        """The second branch if the first one is an error code, and otherwise the first one."""
        first, second = self.branches
        if first.failure() is not None:
            return second
        if first.rows() != 1 or first.columns() != 1:
            return first
        if is_error(first.element(0, 0)):
            return second
        return first
