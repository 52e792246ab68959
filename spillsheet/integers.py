"""What counts as an integer."""


def is_integer_between(value, least, most):
    """Whether any value is an integer from least to most; bools are not integers."""
    return isinstance(value, int) and not isinstance(value, bool) and least <= value <= most
