"""The text of contents."""

from spillsheet.errors import BadContent, BadFormula
from spillsheet.integers import written_integer
from spillsheet.parser import parse
from spillsheet.printer import print_expression
from spillsheet.scalars import is_number
from spillsheet.sheets import is_formula

FORMULA_SIGN = "="
# As many as the largest number has.
MOST_DIGITS = 10


def text_of_content(content):
    """The text of a content, or of None for an empty cell."""
    if content is None:
        return ""
    if is_formula(content):
        return FORMULA_SIGN + print_expression(content)
    return str(content)


def content_of_text(text):
    """The content of a text, or None for the text of an empty cell.

    Raises BadContent for any value that is not the text of a content, and BadFormula for one
    that could only be that of a formula.
    """
    if not isinstance(text, str):
        raise BadContent(text)
    if text == "":
        return None
    if text.startswith(FORMULA_SIGN):
        return _formula_of_text(text)
    number = _number_of_text(text)
    if number is None:
        raise BadContent(text)
    return number


def _formula_of_text(text):
    """The expression behind the sign; raises BadFormula with a position in the whole text."""
    try:
        return parse(text[len(FORMULA_SIGN):])
    except BadFormula as e:
        raise BadFormula(len(FORMULA_SIGN) + e.position) from None


def _number_of_text(text):
    """The number that a text is the text of, or None."""
    is_negative = text.startswith("-")
    number = written_integer(text.removeprefix("-"), MOST_DIGITS)
    if number is None:
        return None
    if is_negative:
        number = -number
    # There is no "-0".
    if text != str(number) or not is_number(number):
        return None
    return number
