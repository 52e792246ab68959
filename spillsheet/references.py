"""References in expressions, and how they move.

A span is a pair (first, last): the first and the last row, or column, that a reference covers.
Spans are changed by functions that take first and last and return the new pair; where the new
last comes before the new first, nothing is left of the span.
"""

from spillsheet.expressions import REFERENCE_KINDS
from spillsheet.grid import is_index

# Where rows and where columns stand in a cell, and in a sheet.
ROW_AXIS = 0
COLUMN_AXIS = 1


def translate(expression, down, right):
    """The expression with all its references moved."""
    return _with_spans(expression, moving(down), moving(right))


def with_spans_along(expression, axis, change):
    """The expression with its references changed along one axis."""
    if axis == ROW_AXIS:
        return _with_spans(expression, change, moving(0))
    return _with_spans(expression, moving(0), change)


def moving(distance):
    """Moves spans."""
    return lambda first, last: (first + distance, last + distance)


def inserting(at, count):
    """Changes spans as inserting rows or columns does."""
    def grown(place):
        """Where a row or column is after that."""
        if place >= at:
            return place + count
        return place

    return lambda first, last: (grown(first), grown(last))


def deleting(at, count):
    """Changes spans as deleting rows or columns does."""
    end = at + count

    def shrunk(first, last):
        """The span after that."""
        if first >= end:
            first -= count
        elif first >= at:
            first = at
        if last >= end:
            last -= count
        elif last >= at:
            last = at - 1
        return (first, last)

    return shrunk


def _with_spans(expression, change_rows, change_columns):
    """The expression with the spans of all its references changed."""
    kind = expression[0]
    if kind == "badref":
        return _lost_reference()
    if kind in REFERENCE_KINDS:
        rows, columns = _spans_of(expression)
        return _reference_over(kind, change_rows(*rows), change_columns(*columns))
    if kind == "negate":
        return (kind, _with_spans(expression[1], change_rows, change_columns))
    if kind == "binary":
        _, operator, left, right = expression
        return (
            kind,
            operator,
            _with_spans(left, change_rows, change_columns),
            _with_spans(right, change_rows, change_columns),
        )
    if kind == "call":
        _, name, arguments = expression
        changed = [_with_spans(argument, change_rows, change_columns) for argument in arguments]
        return (kind, name, tuple(changed))
    return (kind, expression[1])


def _spans_of(reference):
    """The rows and the columns that a reference covers."""
    if reference[0] == "range":
        _, top, left, bottom, right = reference
        return ((top, bottom), (left, right))
    _, row, column = reference
    return ((row, row), (column, column))


def _reference_over(kind, rows, columns):
    """The reference of this kind that covers these rows and columns, if there is one."""
    top, bottom = rows
    left, right = columns
    if not all([is_index(place) for place in rows + columns]) or top > bottom or left > right:
        return _lost_reference()
    if kind == "range":
        return (kind, top, left, bottom, right)
    return (kind, top, left)


def _lost_reference():
    """A reference to nothing."""
    kind = "badref"
    # Written as a literal, it would be the same tuple each time.
    return (kind,)
