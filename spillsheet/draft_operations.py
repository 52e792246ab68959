"""Routines of operators, and of functions that return a single scalar."""

from spillsheet.drafts import checked, scalar_checked, size_asked, told, told_there


def same_size(draft, operand, element):
    """Writes an expression with the size and the failure of its operand."""
    return draft.array(
        failure=told(operand["failure"]),
        rows=told(operand["rows"]),
        columns=told(operand["columns"]),
        element=element,
    )


def negation(draft, operands):
    """Writes the minus sign in front of an expression."""
    operand = operands[0]
    return same_size(draft, operand, [("ask_there", operand["element"]), ("negate",)])


def operation(draft, operator, operands):
    """Writes an operator between two expressions."""
    left, right = operands
    first = draft.repeated_of(left)
    second = draft.repeated_of(right)
    return draft.array(
        failure=checked(left["failure"]) + checked(right["failure"])
        + size_asked(left) + [("end_if_single",)] + size_asked(right) + [("compare_sizes",)],
        rows=_first_that_is_not_one(left["rows"], right["rows"]),
        columns=_first_that_is_not_one(left["columns"], right["columns"]),
        element=[
            ("ask_there", first), ("end_if_error",), ("ask_there", second), ("operate", operator),
        ],
    )


def aggregate_call(draft, name, operands):
    """Writes SUM, COUNT, MAX or MIN."""
    operand = operands[0]
    stops_at_errors = name != "COUNT"
    return draft.single(
        checked(operand["failure"]) + size_asked(operand)
        + [("each", operand["element"], stops_at_errors), ("aggregate", name)]
    )


def row_count(draft, operands):
    """Writes ROWS."""
    return draft.single(told(operands[0]["rows"]))


def column_count(draft, operands):
    """Writes COLUMNS."""
    return draft.single(told(operands[0]["columns"]))


def selection(draft, operands):
    """Writes INDEX."""
    array, row_argument, column_argument = operands
    row = draft.scalar_of(row_argument)
    column = draft.scalar_of(column_argument)
    return draft.single(
        checked(array["failure"]) + scalar_checked(row) + scalar_checked(column)
        + size_asked(array) + [("locate",)] + told_there(array["element"])
    )


def _first_that_is_not_one(first, second):
    """Instructions that end with the first of two sizes unless it is 1, and else the second."""
    return [("ask", first), ("end_unless", 1)] + told(second)


SINGLE_CALLS = {
    "ROWS": row_count,
    "COLUMNS": column_count,
    "INDEX": selection,
}
