"""Expressions without subexpressions, when they are evaluated."""

from spillsheet.nodes import Node


class Constant(Node):
    """A scalar that does not depend on answers: a number, or a reference to nothing."""

    def __init__(self, source, scalar_itself):
        Node.__init__(self, source, [])
        self.scalar_itself = scalar_itself

    def plain_element(self, i, j):
        """The scalar."""
        return self.scalar_itself


class Window(Node):
    """What the cells of an area of the grid show."""

    def __init__(self, source, area):
        Node.__init__(self, source, [])
        self.area = area

    def plain_rows(self):
        """The rows of the area."""
        top, _, bottom, _ = self.area
        return bottom - top + 1

    def plain_columns(self):
        """The columns of the area."""
        _, left, _, right = self.area
        return right - left + 1

    def plain_element(self, i, j):
        """What a cell of the area shows."""
        top, left, _, _ = self.area
        return self.source.answer(("shown", (top + i, left + j)))


class Spill(Node):
    """The whole result of the formula in a cell."""

    def __init__(self, source, cell):
        Node.__init__(self, source, [])
        self.cell = cell

    def plain_rows(self):
        """The rows of the formula."""
        return self.source.answer(("rows", self.cell))

    def plain_columns(self):
        """The columns of the formula."""
        return self.source.answer(("columns", self.cell))

    def find_failure(self):
        """The formula must not be blocked."""
        if self.source.answer(("status", self.cell)) == "blocked":
            return "#SPILL"
        return None

    def plain_element(self, i, j):
        """The element of the formula."""
        return self.source.answer(("element", self.cell, i, j))
