"""What counts as an integer, and the limit of the numbers."""

LARGEST_NUMBER = 10 ** 9


def is_integer_between(value, least, most):
    """Whether any value is an integer from least to most; bools are not integers."""
    return isinstance(value, int) and not isinstance(value, bool) and least <= value <= most
