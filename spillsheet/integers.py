"""What counts as an integer, how integers are written, and the limit of the numbers."""

LARGEST_NUMBER = 10 ** 9
DIGITS = "0123456789"


def is_integer_between(value, least, most):
    """Whether any value is an integer from least to most; bools are not integers."""
    return isinstance(value, int) and not isinstance(value, bool) and least <= value <= most


def written_integer(text, most_digits):
    """The integer that a text of at most so many digits, without leading zeros, writes, or None."""
    if not 1 <= len(text) <= most_digits or not all([sign in DIGITS for sign in text]):
        return None
    if text[0] == "0" and len(text) > 1:
        return None
    return int(text)
