"""From the tuple form of an expression to a program, which spillsheet.machine runs."""

from spillsheet.draft_arrays import ARRAY_CALLS
from spillsheet.draft_choices import CHOICE_CALLS
from spillsheet.draft_operations import SINGLE_CALLS, aggregate_call, negation, operation
from spillsheet.drafts import Draft
from spillsheet.expressions import head_of, subexpressions_of


def compile_expression(expression):
    """A program that works out the parts of an expression."""
    draft = Draft()
    draft.lead_to(_addresses_of(expression, draft))
    return draft.program


def _addresses_of(expression, draft):
    """The addresses of an expression, after writing its routines if they are not there yet."""
    operands = [_addresses_of(operand, draft) for operand in subexpressions_of(expression)]
    # An operand is told from others by one of its addresses: keys may not be nested deep.
    key = head_of(expression) + tuple([operand["element"] for operand in operands])
    if key not in draft.written:
        draft.written[key] = _new_addresses(expression, operands, draft)
    return draft.written[key]


def _new_addresses(expression, operands, draft):
    """Writes the routines of an expression over those of its subexpressions."""
    kind = expression[0]
    if kind == "negate":
        return negation(draft, operands)
    if kind == "binary":
        return operation(draft, expression[1], operands)
    if kind == "call":
        return _call(expression[1], operands, draft)
    if kind == "number":
        return draft.single([("give", expression[1])])
    if kind == "badref":
        return draft.single([("give", "#REF")])
    if kind == "spill":
        return _spill(expression[1:], draft)
    if kind == "cell":
        return draft.single([("show",) + expression[1:] + expression[1:]])
    area = expression[1:]
    return draft.without_failure([("height",) + area], [("width",) + area], [("show",) + area])


def _spill(cell, draft):
    """Writes a reference to the result of a formula."""
    return draft.array(
        failure=[("spill_failure",) + cell],
        rows=[("spill_size", "rows") + cell],
        columns=[("spill_size", "columns") + cell],
        element=[("spill_element",) + cell],
    )


def _call(name, operands, draft):
    """Writes a function."""
    if name in ARRAY_CALLS:
        write = ARRAY_CALLS[name]
    elif name in CHOICE_CALLS:
        write = CHOICE_CALLS[name]
    elif name in SINGLE_CALLS:
        write = SINGLE_CALLS[name]
    else:
        return aggregate_call(draft, name, operands)
    return write(draft, operands)
