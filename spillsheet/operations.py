"""Operators, and functions that return a single scalar, when they are evaluated."""

from spillsheet.nodes import Node, SameSizeNode, first_failure
from spillsheet.scalars import aggregate, apply_operator, is_error, negate


class Negation(SameSizeNode):
    """The minus sign in front of an expression."""

    def plain_element(self, i, j):
        """The negation of the operand's element."""
        return negate(self.operands[0].element(i, j))


class Operation(Node):
    """An operator between two expressions."""

    def __init__(self, source, operator, operands):
        Node.__init__(self, source, operands)
        self.operator = operator

    def plain_rows(self):
        """The rows of the first operand that has more than one."""
        left, right = self.operands
        rows = left.rows()
        if rows != 1:
            return rows
        return right.rows()

    def plain_columns(self):
        """The columns of the first operand that has more than one."""
        left, right = self.operands
        columns = left.columns()
        if columns != 1:
            return columns
        return right.columns()

    def find_failure(self):
        """Both operands must have results, and sizes that go together."""
        failure = first_failure(self.operands)
        if failure is not None:
            return failure
        left, right = self.operands
        left_size = left.size()
        if left_size == (1, 1):
            return None
        right_size = right.size()
        if right_size == (1, 1) or right_size == left_size:
            return None
        return "#SHAPE"

    def plain_element(self, i, j):
        """What the operator computes from an element of each operand."""
        left, right = self.operands
        scalar = _repeated_element(left, i, j)
        if is_error(scalar):
            return scalar
        return apply_operator(self.operator, scalar, _repeated_element(right, i, j))


class Aggregate(Node):
    """SUM, COUNT, MAX and MIN."""

    def __init__(self, source, name, operands):
        Node.__init__(self, source, operands)
        self.name = name

    def plain_element(self, i, j):
        """The aggregate of all that the argument has."""
        argument = self.operands[0]
        failure = argument.failure()
        if failure is not None:
            return failure
        rows, columns = argument.size()
        scalars = []
        for row in range(rows):
            for column in range(columns):
                scalar = argument.element(row, column)
                if is_error(scalar) and self.name != "COUNT":
                    return scalar
                scalars.append(scalar)
        return aggregate(self.name, scalars)


class RowCount(Node):
    """ROWS."""

    def plain_element(self, i, j):
        """The rows of the argument."""
        return self.operands[0].rows()


class ColumnCount(Node):
    """COLUMNS."""

    def plain_element(self, i, j):
        """The columns of the argument."""
        return self.operands[0].columns()


class Selection(Node):
    """INDEX."""

    def plain_element(self, i, j):
        """The element of the first argument that the other two select, counted from 1."""
        array, row_argument, column_argument = self.operands
        failure = array.failure()
        if failure is not None:
            return failure
        row = row_argument.scalar()
        if is_error(row):
            return row
        column = column_argument.scalar()
        if is_error(column):
            return column
        rows, columns = array.size()
        if not 1 <= row <= rows or not 1 <= column <= columns:
            return "#SIZE"
        return array.element(row - 1, column - 1)


def _repeated_element(node, i, j):
    """An element of an operand, where one with a single element has it everywhere."""
    if node.size() == (1, 1):
        return node.element(0, 0)
    return node.element(i, j)
