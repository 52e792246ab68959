"""Routines of functions that choose one of two branches.

A choice is the number of a branch, 0 or 1, or the error code that stands in its way.
"""

from spillsheet.drafts import scalar_checked


def condition(draft, operands):
    """Writes IF."""
    scalar = draft.scalar_of(operands[0])
    choice = draft.routine(scalar_checked(scalar) + [("choose_if_true",)])
    return _chosen(draft, choice, operands[1], operands[2])


def replacement(draft, operands):
    """Writes IFERROR."""
    first, second = operands
    choice = draft.routine([
        ("ask", first["failure"]), ("give_unless", None, 1),
        ("ask", first["rows"]), ("give_unless", 1, 0),
        ("ask", first["columns"]), ("give_unless", 1, 0),
        ("ask", first["element"]), ("choose_unless_error",),
    ])
    return _chosen(draft, choice, first, second)


def _chosen(draft, choice, first, second):
    """Writes an expression that is one of two branches."""
    return draft.array(
        failure=scalar_checked(choice) + [("choose", first["failure"], second["failure"]), ("end",)],
        rows=_chosen_size(choice, first["rows"], second["rows"]),
        columns=_chosen_size(choice, first["columns"], second["columns"]),
        element=[
            ("ask", choice), ("choose_there", first["element"], second["element"]), ("end",),
        ],
    )


def _chosen_size(choice, first, second):
    """Instructions for the rows or columns, which may be known before the choice is."""
    return [
        ("try", first), ("try", second), ("end_if_same",), ("try", choice), ("end_if_no_choice",),
        ("choose", first, second), ("end",),
    ]


CHOICE_CALLS = {
    "IF": condition,
    "IFERROR": replacement,
}
