"""The tuple form of expressions: which values are expressions, and what is in them."""

from spillsheet.grid import is_area, is_cell
from spillsheet.integers import LARGEST_NUMBER, is_integer_between

LARGEST_DEPTH = 12

OPERATORS = ("+", "-", "*", "/", "<", "<=", "=")
# From the operators that bind the least to those that bind the most; a factor binds even more.
OPERATOR_LEVELS = (("<", "<=", "="), ("+", "-"), ("*", "/"))
COMPARISON_LEVEL = 0
FACTOR_LEVEL = 3
REFERENCE_KINDS = ("cell", "range", "spill", "badref")

# For every function the numbers of arguments that it takes.
FUNCTIONS = {
    "SUM": (1,),
    "COUNT": (1,),
    "MAX": (1,),
    "MIN": (1,),
    "ROWS": (1,),
    "COLUMNS": (1,),
    "TRANSPOSE": (1,),
    "SORT": (1,),
    "SEQ": (1, 2),
    "IFERROR": (2,),
    "FILTER": (2,),
    "TAKE": (2,),
    "DROP": (2,),
    "STACK": (2,),
    "BESIDE": (2,),
    "IF": (3,),
    "INDEX": (3,),
}


def is_expression(value):
    """Whether any value is an expression."""
    level = [value]
    # Level by level, so that a value that is nested deeper is never walked to its bottom.
    for _ in range(LARGEST_DEPTH):
        if not all([_is_well_formed(part) for part in level]):
            return False
        level = _one_level_deeper(level)
    return len(level) == 0


def depth_of(expression):
    """The depth of an expression."""
    depth = 0
    level = [expression]
    while len(level) > 0:
        depth += 1
        level = _one_level_deeper(level)
    return depth


def references_of(expression):
    """The list of the references in an expression, from left to right, with repetitions."""
    found = []
    waiting = [expression]
    while len(waiting) > 0:
        part = waiting.pop()
        if part[0] in REFERENCE_KINDS:
            found.append(part)
        # The last one is popped first, so the leftmost has to stand last.
        waiting.extend(subexpressions_of(part)[::-1])
    return found


def subexpressions_of(expression):
    """The list of the expressions that stand directly in an expression, from left to right."""
    kind = expression[0]
    if kind == "negate":
        return [expression[1]]
    if kind == "binary":
        return [expression[2], expression[3]]
    if kind == "call":
        return list(expression[2])
    return []


def head_of(expression):
    """The tuple of an expression up to where its subexpressions begin."""
    kind = expression[0]
    if kind == "negate":
        return expression[:1]
    if kind == "binary" or kind == "call":
        return expression[:2]
    return expression


def _one_level_deeper(level):
    """The subexpressions of all expressions of a list."""
    return [part for expression in level for part in subexpressions_of(expression)]


def _is_well_formed(value):
    """Whether any value is an expression, provided that its subexpressions are expressions."""
    if not isinstance(value, tuple) or len(value) == 0:
        return False
    kind = value[0]
    fields = value[1:]
    if kind == "number":
        return len(fields) == 1 and is_integer_between(fields[0], 0, LARGEST_NUMBER)
    if kind == "cell" or kind == "spill":
        return is_cell(fields)
    if kind == "range":
        return is_area(fields)
    if kind == "badref":
        return len(fields) == 0
    if kind == "negate":
        return len(fields) == 1
    if kind == "binary":
        return len(fields) == 3 and fields[0] in OPERATORS
    return kind == "call" and len(fields) == 2 and _takes_arguments(fields[0], fields[1])


def _takes_arguments(name, arguments):
    """Whether name is a function and arguments is a tuple of as many values as it takes."""
    # A name that is no string may be a list, which cannot be looked up in a dict.
    if not isinstance(name, str) or not isinstance(arguments, tuple):
        return False
    return len(arguments) in FUNCTIONS.get(name, ())
