"""The settled state of a sheet: everything that its rules determine."""

from spillsheet.questions import element_questions
from spillsheet.rules import Rules, questions_of
from spillsheet.sheets import grid_cells


def settle(sheet, *, known=None):
    """The settled state of a sheet; known answers of it are not worked out again."""
    answers = {}
    if known is not None:
        answers = {question: known[question] for question in known}
    rules = Rules(sheet, answers)
    # For every question that is missing somewhere, the questions that wait for it.
    waiting = {}
    due = questions_of(sheet, answers)
    while len(due) > 0:
        question = due.pop()
        if question in answers:
            continue
        kind, found = rules.apply(question)
        if kind == "missing":
            _note_waiting(waiting, found, question)
        else:
            answers[question] = found
            due.extend(list(waiting.pop(question, {})))
            due.extend(_new_questions(answers, question))
    return answers


def display(sheet):
    """What every cell shows in the settled state, row by row; "?" where it is undecided."""
    rows, columns, _ = sheet
    state = settle(sheet)
    scalars = [state.get(("shown", cell), "?") for cell in grid_cells(sheet)]
    return tuple([tuple(scalars[row * columns:(row + 1) * columns]) for row in range(rows)])


def _note_waiting(waiting, needed_questions, question):
    """Notes that a question waits for each of the others."""
    for needed in needed_questions:
        if needed not in waiting:
            waiting[needed] = {}
        waiting[needed][question] = True


def _new_questions(answers, question):
    """The questions that the sheet has only since this one was answered."""
    if question[0] in ("rows", "columns"):
        return element_questions(answers, question[1])
    return []
