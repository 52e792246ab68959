"""The text of a sheet."""

from spillsheet.contents import content_of_text, text_of_content
from spillsheet.errors import BadContent, BadFile, BadFormula
from spillsheet.grid import cell_name, cell_or_none
from spillsheet.sheets import is_grid_cell, written_size

FIRST_WORD = "sheet"


def save_text(sheet):
    """The text of a sheet."""
    rows, columns, contents = sheet
    lines = [f"{FIRST_WORD} {rows} {columns}"]
    for cell in sorted(contents):
        lines.append(f"{cell_name(cell)} {text_of_content(contents[cell])}")
    return "\n".join(lines)


def load_text(text):
    """The sheet of a text; raises BadFile for any value that is not the text of a sheet."""
    if not isinstance(text, str):
        raise BadFile(0)
    lines = text.split("\n")
    size = _size_in(lines[0])
    if size is None:
        raise BadFile(0)
    rows, columns = size
    sheet = (rows, columns, {})
    last = None
    for at in range(1, len(lines)):
        cell, content = _cell_and_content_in(lines[at])
        if content is None or not is_grid_cell(sheet, cell) or (last is not None and cell <= last):
            raise BadFile(at)
        sheet[2][cell] = content
        last = cell
    return sheet


def _size_in(line):
    """The rows and columns that the first line tells, or None."""
    words = line.split(" ")
    if len(words) != 3 or words[0] != FIRST_WORD:
        return None
    rows = written_size(words[1])
    columns = written_size(words[2])
    if rows is None or columns is None:
        return None
    return (rows, columns)


def _cell_and_content_in(line):
    """The cell that another line names, and the content that it tells; None for what is wrong."""
    name, _, text = line.partition(" ")
    try:
        return (cell_or_none(name), content_of_text(text))
    except (BadContent, BadFormula):
        return (None, None)
