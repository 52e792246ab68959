"""Routines of functions that return arrays."""

from spillsheet.draft_operations import same_size
from spillsheet.drafts import checked, scalar_checked, told, told_there


def sequence(draft, operands):
    """Writes SEQ; the columns are 1 if they are not given."""
    rows = draft.scalar_of(operands[0])
    columns = draft.one
    if len(operands) == 2:
        columns = draft.scalar_of(operands[1])
    return draft.array(
        failure=scalar_checked(rows) + scalar_checked(columns) + [("check_sizes",)],
        rows=[("ask", rows), ("limit_size",)],
        columns=[("ask", columns), ("limit_size",)],
        element=[("ask", columns), ("count_up",)],
    )


def transposition(draft, operands):
    """Writes TRANSPOSE."""
    array = operands[0]
    return draft.array(
        failure=told(array["failure"]),
        rows=told(array["columns"]),
        columns=told(array["rows"]),
        element=[("exchange",)] + told_there(array["element"]),
    )


def sorting(draft, operands):
    """Writes SORT."""
    array = operands[0]
    order = draft.routine([
        ("ask", array["rows"]), ("push", 1), ("each", array["element"], True), ("sort",),
    ])
    return same_size(draft, array, scalar_checked(order) + [("pick",)] + told_there(array["element"]))


def filtering(draft, operands):
    """Writes FILTER."""
    array, mask = operands
    chosen = draft.routine([
        ("ask", array["rows"]), ("ask", mask["rows"]), ("ask", mask["columns"]), ("match",),
        ("each", mask["element"], True), ("select",),
    ])
    return draft.array(
        failure=checked(array["failure"]) + checked(mask["failure"])
        + scalar_checked(chosen) + [("give", None)],
        rows=[("ask", array["rows"]), ("end_if", 1), ("ask", chosen), ("count_chosen",)],
        columns=told(array["columns"]),
        element=[("ask", chosen), ("pick",)] + told_there(array["element"]),
    )


def taking(draft, operands):
    """Writes TAKE."""
    array = operands[0]
    number = draft.scalar_of(operands[1])
    return draft.array(
        failure=checked(array["failure"]) + scalar_checked(number) + [("check_taken",)],
        rows=[("ask", array["rows"]), ("end_if", 1), ("ask", number), ("count_taken",)],
        columns=told(array["columns"]),
        # Only a number that is not positive makes the rows of the array matter.
        element=[("ask", number), ("skip_if_positive", 2), ("ask", array["rows"]), ("from_end",)]
        + told_there(array["element"]),
    )


def dropping(draft, operands):
    """Writes DROP."""
    array = operands[0]
    number = draft.scalar_of(operands[1])
    return draft.array(
        failure=checked(array["failure"]) + scalar_checked(number)
        + [("ask", array["rows"]), ("check_dropped",)],
        rows=[("ask", array["rows"]), ("end_if", 1), ("ask", number), ("count_left",)],
        columns=told(array["columns"]),
        element=[("ask", number), ("pass_dropped",)] + told_there(array["element"]),
    )


def stacking(draft, operands):
    """Writes STACK."""
    upper, lower = operands
    rows = [("ask", upper["rows"]), ("ask", lower["rows"])]
    return draft.array(
        failure=checked(upper["failure"]) + checked(lower["failure"])
        + [("ask", upper["columns"]), ("ask", lower["columns"]), ("end_if_different",)]
        + rows + [("check_stacked",)],
        rows=rows + [("count_stacked",)],
        columns=told(upper["columns"]),
        element=[
            ("ask", upper["rows"]), ("find_layer",),
            ("choose_there", upper["element"], lower["element"]), ("end",),
        ],
    )


def setting_beside(draft, operands):
    """Writes BESIDE, which is STACK with rows and columns exchanged."""
    exchanged = [transposition(draft, [operand]) for operand in operands]
    return transposition(draft, [stacking(draft, exchanged)])


ARRAY_CALLS = {
    "SEQ": sequence,
    "TRANSPOSE": transposition,
    "SORT": sorting,
    "FILTER": filtering,
    "TAKE": taking,
    "DROP": dropping,
    "STACK": stacking,
    "BESIDE": setting_beside,
}
