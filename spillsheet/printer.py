"""From the tuple form of an expression to its text form."""

from spillsheet.expressions import COMPARISON_LEVEL, FACTOR_LEVEL, OPERATOR_LEVELS
from spillsheet.grid import area_name, cell_name
from spillsheet.tokens import BADREF_WORD


def print_expression(expression):
    """The shortest text of an expression: no spaces, and no parentheses that it does not need."""
    kind = expression[0]
    if kind == "number":
        return str(expression[1])
    if kind == "cell":
        return cell_name(expression[1:])
    if kind == "range":
        return area_name(expression[1:])
    if kind == "spill":
        return cell_name(expression[1:]) + "#"
    if kind == "badref":
        return BADREF_WORD
    if kind == "negate":
        return "-" + _text_in_place(expression[1], FACTOR_LEVEL)
    if kind == "binary":
        return _text_of_operation(expression)
    texts = [print_expression(argument) for argument in expression[2]]
    return expression[1] + "(" + ",".join(texts) + ")"


def _text_of_operation(expression):
    """The text of an operator and its operands."""
    _, operator, left, right = expression
    level = _level_of(expression)
    left_level = level
    # Comparisons are the only operators that do not associate to the left.
    if level == COMPARISON_LEVEL:
        left_level = level + 1
    return _text_in_place(left, left_level) + operator + _text_in_place(right, level + 1)


def _text_in_place(expression, level):
    """The text of an expression where only what binds at least as much as the level may stand."""
    text = print_expression(expression)
    if _level_of(expression) < level:
        return "(" + text + ")"
    return text


def _level_of(expression):
    """How much an expression binds."""
    if expression[0] != "binary":
        return FACTOR_LEVEL
    for level, operators in enumerate(OPERATOR_LEVELS):
        if expression[1] in operators:
            return level
    return FACTOR_LEVEL
