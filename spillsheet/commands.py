"""The commands of the console: which values are commands, and what they say."""

from spillsheet.errors import BadCommand
from spillsheet.grid import area_at, area_or_none, cell_or_none
from spillsheet.integers import written_integer
from spillsheet.sheets import written_size

MOST_DIGITS = 60

# For every command what stands behind its name.
FORMS = {
    "new": ("size", "size"),
    "set": ("cell", "content"),
    "clear": ("cell",),
    "rows insert": ("place", "count"),
    "rows delete": ("place", "count"),
    "columns insert": ("place", "count"),
    "columns delete": ("place", "count"),
    "copy": ("area", "cell"),
    "undo": (),
    "redo": (),
    "show": (),
    "get": ("cell",),
    "text": ("cell",),
    "status": ("cell",),
    "why": ("cell",),
    "changes": (),
    "save": (),
}
# The words that are only the first half of a name.
HALF_NAMES = ("rows", "columns")


def read_command(command):
    """The name of a command and the list of what it is given.

    Raises BadCommand for any value that is not a command.
    """
    if not isinstance(command, str):
        raise BadCommand(command)
    name, words = _name_and_words(command)
    form = FORMS.get(name)
    if form is None or len(words) != len(form):
        raise BadCommand(command)
    given = [_read(kind, word) for kind, word in zip(form, words)]
    if None in given:
        raise BadCommand(command)
    return (name, given)


def _name_and_words(command):
    """The name of a command and the list of the words behind it."""
    words = command.split(" ")
    if words[0] == "set":
        # All that stands behind the cell is one content, which may have spaces.
        words = command.split(" ", 2)
    if words[0] in HALF_NAMES:
        return (" ".join(words[:2]), words[2:])
    return (words[0], words[1:])


def _read(kind, word):
    """What a word of a command says, or None if it is not of the kind that is needed."""
    if word == "":
        return None
    if kind == "size":
        return written_size(word)
    if kind == "place":
        return _place(word)
    if kind == "count":
        return _count(word)
    if kind == "cell":
        return cell_or_none(word)
    if kind == "area":
        return _area_or_single_cell(word)
    return word


def _count(word):
    """The number from 1 on that a word writes, or None."""
    count = written_integer(word, MOST_DIGITS)
    if count == 0:
        return None
    return count


def _place(word):
    """The row or column that a word writes, or None; commands count from 1, sheets from 0."""
    count = _count(word)
    if count is None:
        return None
    return count - 1


def _area_or_single_cell(word):
    """The area that a word names, which may be the name of its only cell, or None."""
    cell = cell_or_none(word)
    if cell is None:
        return area_or_none(word)
    return area_at(cell, 1, 1)
