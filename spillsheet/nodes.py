"""What all kinds of expressions have in common when they are evaluated."""

from spillsheet.missing import MissingAnswers, joined, outcome_of
from spillsheet.scalars import as_number, is_error


class Source:
    """What formulas read: a sheet, and the answers that were found so far.

    More answers may be added to the dict, but none may change: the nodes keep what they have
    worked out from them. What was missing is kept until forget_missing is called.
    The nodes of all expressions are found here, so that equal ones are worked out only once.
    """

    def __init__(self, sheet, answers):
        self.whole_sheet = sheet
        self.answers = answers
        self.nodes = {}
        self.missing = {}

    def answer(self, question):
        """The answer to a question; raises MissingAnswers if it has none."""
        if question not in self.answers:
            raise MissingAnswers([question])
        return self.answers[question]

    def forget_missing(self):
        """Lets everything be tried again for which answers were missing."""
        self.missing = {}


class Node:
    """An expression and the parts of it that have been worked out; one class for each kind.

    A part is "rows", "columns", "failure" or the tuple (i, j) of an element. Every method
    raises MissingAnswers if questions are missing for what it returns.
    """

    def __init__(self, source, operands):
        self.source = source
        self.operands = operands
        self.parts = {}

    def plain_rows(self):
        """The rows if there is no failure."""
        return 1

    def plain_columns(self):
        """The columns if there is no failure."""
        return 1

    def find_failure(self):
        """The error code that replaces the whole result, or None."""
        return None

    def plain_element(self, i, j):
        """An element if there is no failure."""
        raise NotImplementedError("every kind of expression defines this itself")

    def value(self, part):
        """A part, worked out only once."""
        if part in self.parts:
            return self.parts[part]
        key = (self, part)
        if key in self.source.missing:
            raise MissingAnswers(self.source.missing[key])
        try:
            self.parts[part] = self._work_out(part)
        except MissingAnswers as e:
            self.source.missing[key] = e.questions
            raise
        return self.parts[part]

    def rows(self):
        """The rows of the result."""
        return self.value("rows")

    def columns(self):
        """The columns of the result."""
        return self.value("columns")

    def size(self):
        """The rows and columns of the result, named together."""
        return (self.rows(), self.columns())

    def failure(self):
        """The failure of the result."""
        return self.value("failure")

    def element(self, i, j):
        """The element of the result in row i and column j."""
        return self.value((i, j))

    def scalar(self):
        """The result as a scalar argument: a number or an error code."""
        failure = self.failure()
        if failure is not None:
            return failure
        if self.rows() != 1 or self.columns() != 1:
            return "#SHAPE"
        scalar = self.element(0, 0)
        if is_error(scalar):
            return scalar
        return as_number(scalar)

    def _work_out(self, part):
        """A part, from the plain parts of this kind of expression."""
        if part == "rows":
            return self._size_from(outcome_of(self.plain_rows))
        if part == "columns":
            return self._size_from(outcome_of(self.plain_columns))
        if part == "failure":
            return self.find_failure()
        failure = self.failure()
        if failure is not None:
            return failure
        i, j = part
        return self.plain_element(i, j)

    def _size_from(self, plain):
        """The rows or columns, from what came of the plain ones."""
        kind, found = plain
        if kind == "missing":
            return self._size_without(found)
        if found == 1 or self.failure() is None:
            return found
        return 1

    def _size_without(self, questions):
        """The rows or columns if these questions are missing for the plain ones."""
        kind, found = outcome_of(self.failure)
        if kind == "missing":
            raise MissingAnswers(joined([questions, found]))
        if found is None:
            raise MissingAnswers(questions)
        return 1


class SameSizeNode(Node):
    """An expression whose result has the size and the failure of its first operand."""

    def plain_rows(self):
        """The rows of the operand."""
        return self.operands[0].rows()

    def plain_columns(self):
        """The columns of the operand."""
        return self.operands[0].columns()

    def find_failure(self):
        """The failure of the operand."""
        return self.operands[0].failure()


def first_failure(nodes):
    """The first failure among those of several nodes, or None."""
    for node in nodes:
        failure = node.failure()
        if failure is not None:
            return failure
    return None
