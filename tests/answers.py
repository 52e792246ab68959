"""Short ways to write answers and questions in tests."""

from spillsheet.grid import parse_cell


def shown(**scalars):
    """Answers to what cells show: shown(A1=3, B2=None)."""
    return {("shown", parse_cell(name)): scalar for name, scalar in scalars.items()}


def shown_below(name, *scalars):
    """Answers to what a cell and those below it show."""
    row, column = parse_cell(name)
    return {("shown", (row + down, column)): scalar for down, scalar in enumerate(scalars)}


def result_of(name, rows=None, columns=None, status=None, listed=()):
    """Answers about the formula in a cell; listed are the rows of its elements."""
    cell = parse_cell(name)
    named = {("rows", cell): rows, ("columns", cell): columns, ("status", cell): status}
    answers = {question: answer for question, answer in named.items() if answer is not None}
    for i, row in enumerate(listed):
        for j, scalar in enumerate(row):
            answers["element", cell, i, j] = scalar
    return answers


def asked(*words):
    """The list of some questions: asked("shown A1", "element B2 0 1")."""
    questions = []
    for word in words:
        kind, name, *places = word.split()
        questions.append((kind, parse_cell(name)) + tuple(int(place) for place in places))
    return questions
