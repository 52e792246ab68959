"""Scalars: numbers, blanks and error codes, and what is computed with them."""

from spillsheet.integers import LARGEST_NUMBER, is_integer_between

ERROR_CODES = ("#DIV", "#EMPTY", "#NUM", "#REF", "#SHAPE", "#SIZE", "#SPILL")


def is_number(value):
    """Whether any value is a number."""
    return is_integer_between(value, -LARGEST_NUMBER, LARGEST_NUMBER)


def is_scalar(value):
    """Whether any value is a scalar."""
    return value is None or is_number(value) or value in ERROR_CODES


def is_error(scalar):
    """Whether a scalar is an error code."""
    return scalar in ERROR_CODES


def as_number(scalar):
    """The number that a blank or a number counts as."""
    if scalar is None:
        return 0
    return scalar


def apply_operator(operator, left, right):
    """The scalar that an operator computes from two scalars."""
    if is_error(left):
        return left
    if is_error(right):
        return right
    first = as_number(left)
    second = as_number(right)
    if operator == "+":
        return _number_or_error(first + second)
    if operator == "-":
        return _number_or_error(first - second)
    if operator == "*":
        return _number_or_error(first * second)
    if operator == "/":
        return _quotient(first, second)
    if operator == "<":
        return int(first < second)
    if operator == "<=":
        return int(first <= second)
    return int(first == second)


def negate(scalar):
    """The negation of a scalar."""
    return apply_operator("-", 0, scalar)


def aggregate(name, scalars):
    """The scalar that SUM, COUNT, MAX or MIN makes of a sequence of scalars."""
    numbers = [scalar for scalar in scalars if scalar is not None and not is_error(scalar)]
    if name == "COUNT":
        return len(numbers)
    for scalar in scalars:
        if is_error(scalar):
            return scalar
    if name == "SUM":
        return _number_or_error(sum(numbers))
    if len(numbers) == 0:
        return "#EMPTY"
    if name == "MAX":
        return max(numbers)
    return min(numbers)


def _number_or_error(integer):
    """The integer if it is a number, and otherwise the error code for one that is not."""
    if is_number(integer):
        return integer
    return "#NUM"


def _quotient(first, second):
    """The floor of the quotient of two numbers."""
    if second == 0:
        return "#DIV"
    return _number_or_error(first // second)
