"""The tokens of the text form of expressions.

A token is a tuple (kind, word, start): the word is its text, the start is its index. The kind
of a sign is the sign itself; the other kinds are range, spill, cell, function, number, badref.
"""

from spillsheet.grid import LETTERS
from spillsheet.integers import DIGITS

SIGNS = ("<=", "+", "-", "*", "/", "<", "=", "(", ")", ",")
BADREF_WORD = "#REF"


def token_at(text, start):
    """The longest token that starts at an index of the text, or None."""
    kind, end = _kind_and_end(text, start)
    if end == start:
        return None
    return (kind, text[start:end], start)


def _kind_and_end(text, start):
    """The kind and the end of the token that starts here; the end is the start if there is none."""
    end = _end_of_cell_name(text, start)
    if end > start:
        return _reference_kind_and_end(text, start, end)
    end = _end_of_run(text, start, LETTERS)
    if end > start and text[end:end + 1] == "(":
        return ("function", end + 1)
    end = _end_of_run(text, start, DIGITS)
    if end > start:
        return ("number", end)
    if text[start:start + len(BADREF_WORD)] == BADREF_WORD:
        return ("badref", start + len(BADREF_WORD))
    for sign in SIGNS:
        if text[start:start + len(sign)] == sign:
            return (sign, start + len(sign))
    return (None, start)


def _reference_kind_and_end(text, start, end):
    """The kind and the end of the token that starts with the cell name from start to end."""
    sign = text[end:end + 1]
    if sign == "#":
        return ("spill", end + 1)
    second_end = _end_of_cell_name(text, end + 1)
    if sign == ":" and second_end > end + 1:
        return ("range", second_end)
    return ("cell", end)


def _end_of_cell_name(text, start):
    """Where one letter and the digits behind it end; the start if they do not stand there."""
    if start >= len(text) or text[start] not in LETTERS:
        return start
    end = _end_of_run(text, start + 1, DIGITS)
    if end == start + 1:
        return start
    return end


def _end_of_run(text, start, characters):
    """Where the run of these characters that starts here ends."""
    end = start
    while end < len(text) and text[end] in characters:
        end += 1
    return end
