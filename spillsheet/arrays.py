"""Functions that return arrays, when they are evaluated."""

from spillsheet.grid import GRID_SIZE
from spillsheet.integers import is_integer_between
from spillsheet.nodes import Node, SameSizeNode, first_failure
from spillsheet.scalars import as_number, is_error


class Sequence(Node):
    """SEQ; both arguments are given."""

    def plain_rows(self):
        """The first argument, if it can be a size."""
        return _size_or_one(self.operands[0].scalar())

    def plain_columns(self):
        """The second argument, if it can be a size."""
        return _size_or_one(self.operands[1].scalar())

    def find_failure(self):
        """Both arguments must be sizes."""
        rows = self.operands[0].scalar()
        if is_error(rows):
            return rows
        columns = self.operands[1].scalar()
        if is_error(columns):
            return columns
        if not _is_size(rows) or not _is_size(columns):
            return "#SIZE"
        return None

    def plain_element(self, i, j):
        """The elements are counted in reading order, from 1."""
        return i * self.operands[1].scalar() + j + 1


class Transposition(Node):
    """TRANSPOSE."""

    def plain_rows(self):
        """The columns of the argument."""
        return self.operands[0].columns()

    def plain_columns(self):
        """The rows of the argument."""
        return self.operands[0].rows()

    def find_failure(self):
        """The failure of the argument."""
        return self.operands[0].failure()

    def plain_element(self, i, j):
        """The element on the other side of the diagonal."""
        return self.operands[0].element(j, i)


class Sorted(SameSizeNode):
    """SORT."""

    def plain_element(self, i, j):
        """An element of the row that comes i-th in ascending order."""
        array = self.operands[0]
        order = []
        for row in range(array.rows()):
            scalar = array.element(row, 0)
            if is_error(scalar):
                return scalar
            order.append((as_number(scalar), row))
        _, row = sorted(order)[i]
        return array.element(row, j)


class Filter(Node):
    """FILTER."""

    def plain_rows(self):
        """The number of the selected rows."""
        if self.operands[0].rows() == 1:
            return 1
        code, selected = self._selection()
        if code is not None:
            return 1
        return len(selected)

    def plain_columns(self):
        """The columns of the array."""
        return self.operands[0].columns()

    def find_failure(self):
        """Both arguments must have results, and some row must be selected."""
        failure = first_failure(self.operands)
        if failure is not None:
            return failure
        code, _ = self._selection()
        return code

    def plain_element(self, i, j):
        """An element of the i-th selected row."""
        _, selected = self._selection()
        return self.operands[0].element(selected[i], j)

    def _selection(self):
        """The error code with which the selection fails, or None, and the selected rows."""
        array, mask = self.operands
        rows = array.rows()
        if mask.size() != (rows, 1):
            return ("#SHAPE", [])
        selected = []
        for row in range(rows):
            scalar = mask.element(row, 0)
            if is_error(scalar):
                return (scalar, [])
            if as_number(scalar) != 0:
                selected.append(row)
        if len(selected) == 0:
            return ("#EMPTY", [])
        return (None, selected)


class Cut(Node):
    """What TAKE and DROP have in common: an array and a scalar argument.

    Each of them has its own rows_left and failure_with.
    """

    def plain_rows(self):
        """The rows that are left, but at least 1."""
        array, number_argument = self.operands
        rows = array.rows()
        if rows == 1:
            return 1
        number = number_argument.scalar()
        if is_error(number):
            return 1
        return max(self.rows_left(rows, number), 1)

    def plain_columns(self):
        """The columns of the array."""
        return self.operands[0].columns()

    def find_failure(self):
        """The array must have a result, and the number must leave something of it."""
        array, number_argument = self.operands
        failure = array.failure()
        if failure is not None:
            return failure
        number = number_argument.scalar()
        if is_error(number):
            return number
        return self.failure_with(number)


class Taken(Cut):
    """TAKE."""

    def rows_left(self, rows, number):
        """As many rows as are taken, as far as there are any."""
        return min(abs(number), rows)

    def failure_with(self, number):
        """Something must be taken."""
        if number == 0:
            return "#SIZE"
        return None

    def plain_element(self, i, j):
        """An element of the first rows, or of the last rows if the number is negative."""
        array, number_argument = self.operands
        number = number_argument.scalar()
        if number > 0:
            return array.element(i, j)
        rows = array.rows()
        return array.element(rows - self.rows_left(rows, number) + i, j)


class Dropped(Cut):
    """DROP."""

    def rows_left(self, rows, number):
        """As many rows as are not dropped; less than 1 if all are."""
        return rows - abs(number)

    def failure_with(self, number):
        """Something must be left."""
        if self.rows_left(self.operands[0].rows(), number) < 1:
            return "#EMPTY"
        return None

    def plain_element(self, i, j):
        """An element behind the first rows, or one of the first if the number is negative."""
        array, number_argument = self.operands
        return array.element(i + max(number_argument.scalar(), 0), j)


class Stack(Node):
    """STACK."""

    def plain_rows(self):
        """The rows of both arguments, as far as the grid has so many."""
        return min(self._all_rows(), GRID_SIZE)

    def plain_columns(self):
        """The columns of the upper argument."""
        return self.operands[0].columns()

    def find_failure(self):
        """Both arguments must have results of the same width that are not too many rows."""
        failure = first_failure(self.operands)
        if failure is not None:
            return failure
        upper, lower = self.operands
        if upper.columns() != lower.columns():
            return "#SHAPE"
        if self._all_rows() > GRID_SIZE:
            return "#SIZE"
        return None

    def plain_element(self, i, j):
        """An element of the argument that the row falls into."""
        upper, lower = self.operands
        rows = upper.rows()
        if i < rows:
            return upper.element(i, j)
        return lower.element(i - rows, j)

    def _all_rows(self):
        """The rows of both arguments."""
        upper, lower = self.operands
        return upper.rows() + lower.rows()


def _is_size(number):
    """Whether an array can have so many rows or columns."""
    return is_integer_between(number, 1, GRID_SIZE)


def _size_or_one(number):
    """The number or error code itself if it can be a size, and otherwise 1."""
    if _is_size(number):
        return number
    return 1
