"""From the tuple form of an expression to the nodes that evaluate it."""

from spillsheet.arrays import Dropped, Filter, Sequence, Sorted, Stack, Taken, Transposition
from spillsheet.choices import Condition, Replacement
from spillsheet.expressions import head_of, subexpressions_of
from spillsheet.leaves import Constant, Spill, Window
from spillsheet.operations import (
    Aggregate, ColumnCount, Negation, Operation, RowCount, Selection,
)
from spillsheet.sheets import holds_formula, is_area_inside

NO_REFERENCE = "#REF"


def node_of(expression, source):
    """The node of an expression; equal expressions over the same source have the same node."""
    operands = [node_of(operand, source) for operand in subexpressions_of(expression)]
    # The operands stand here as nodes, because tuples in keys may not be nested deep.
    key = head_of(expression) + tuple(operands)
    if key not in source.nodes:
        source.nodes[key] = _new_node(expression, operands, source)
    return source.nodes[key]


def _new_node(expression, operands, source):
    """A new node for an expression, over the nodes of its subexpressions."""
    kind = expression[0]
    if kind == "number":
        return Constant(source, expression[1])
    if kind == "cell":
        return _window_of(expression[1:] + expression[1:], source)
    if kind == "range":
        return _window_of(expression[1:], source)
    if kind == "spill":
        return _spill_of(expression[1:], source)
    if kind == "badref":
        return Constant(source, NO_REFERENCE)
    if kind == "negate":
        return Negation(source, operands)
    if kind == "binary":
        return Operation(source, expression[1], operands)
    return _call_of(expression[1], operands, source)


def _window_of(area, source):
    """The node of a reference to the cells of an area."""
    if not is_area_inside(source.whole_sheet, area):
        return Constant(source, NO_REFERENCE)
    return Window(source, area)


def _spill_of(cell, source):
    """The node of a reference to the result of a formula."""
    if not holds_formula(source.whole_sheet, cell):
        return Constant(source, NO_REFERENCE)
    return Spill(source, cell)


def _call_of(name, operands, source):
    """The node of a function."""
    if name == "ROWS":
        return RowCount(source, operands)
    if name == "COLUMNS":
        return ColumnCount(source, operands)
    if name == "INDEX":
        return Selection(source, operands)
    if name == "IF":
        return Condition(source, operands)
    if name == "IFERROR":
        return Replacement(source, operands)
    if name in ("SUM", "COUNT", "MAX", "MIN"):
        return Aggregate(source, name, operands)
    return _array_call_of(name, operands, source)


def _array_call_of(name, operands, source):
    """The node of a function that returns an array."""
    if name == "SEQ":
        return _sequence_of(operands, source)
    if name == "TRANSPOSE":
        return Transposition(source, operands)
    if name == "SORT":
        return Sorted(source, operands)
    if name == "FILTER":
        return Filter(source, operands)
    if name == "TAKE":
        return Taken(source, operands)
    if name == "DROP":
        return Dropped(source, operands)
    if name == "STACK":
        return Stack(source, operands)
    return _beside_of(operands, source)


def _sequence_of(operands, source):
    """The node of SEQ, whose second argument may be absent."""
    if len(operands) == 1:
        return Sequence(source, [operands[0], Constant(source, 1)])
    return Sequence(source, operands)


def _beside_of(operands, source):
    """The node of BESIDE, which is STACK with rows and columns exchanged."""
    exchanged = [Transposition(source, [operand]) for operand in operands]
    return Transposition(source, [Stack(source, exchanged)])
