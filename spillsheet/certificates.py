"""Certificates for what is settled and for what is undecided, and complete states."""

from spillsheet.errors import NotUndecided
from spillsheet.grid import GRID_SIZE
from spillsheet.integers import is_integer_between
from spillsheet.questions import is_question
from spillsheet.rules import Rules, questions_of
from spillsheet.scalars import is_scalar
from spillsheet.settle import settle
from spillsheet.sheets import formulas_of

STATUSES = ("single", "spilled", "blocked")


def derivation(sheet):
    """A complete derivation of the sheet."""
    state = settle(sheet)
    # Answers were added to the state in the order in which they could be worked out.
    return list(state.items())


def check_derivation(sheet, steps):
    """None for a complete derivation, otherwise the index of the first step that is wrong."""
    answers = _answers_of_correct_steps(sheet, steps)
    if len(answers) < len(steps):
        return len(answers)
    rules = Rules(sheet, answers)
    for question in questions_of(sheet, answers):
        if question not in answers and rules.apply(question)[0] == "answer":
            return len(steps)
    return None


def waiting_chain(sheet, question):
    """The waiting chain of an undecided question; raises NotUndecided for any other value."""
    rules = _rules_if_undecided(sheet, question)
    chain = [question]
    seen = {}
    while chain[-1] not in seen:
        seen[chain[-1]] = True
        _, missing = rules.apply(chain[-1])
        chain.append(missing[0])
    return chain


def waiting_set(sheet, question):
    """The waiting set of an undecided question; raises NotUndecided for any other value."""
    rules = _rules_if_undecided(sheet, question)
    found = {question: True}
    due = [question]
    while len(due) > 0:
        _, missing = rules.apply(due.pop())
        for needed in missing:
            if needed not in found:
                found[needed] = True
                due.append(needed)
    return sorted(found)


def check_waiting_set(sheet, steps, questions):
    """Whether a list is closed over a list of steps; both are lists of any values."""
    answers = _answers_of_correct_steps(sheet, steps)
    if len(answers) < len(steps) or len(questions) == 0:
        return False
    if not all([_is_open_question(sheet, answers, question) for question in questions]):
        return False
    listed = {question: True for question in questions}
    if len(listed) < len(questions):
        return False
    rules = Rules(sheet, answers)
    for question in questions:
        kind, found = rules.apply(question)
        if kind == "answer" or not all([needed in listed for needed in found]):
            return False
    return True


def is_complete_state(sheet, state):
    """Whether a dict with any keys and values is a complete state of the sheet."""
    if not _has_sizes(sheet, state) or not _has_exactly_its_questions(sheet, state):
        return False
    sizes = [question for question in state if question[0] in ("rows", "columns")]
    others = [question for question in state if question[0] not in ("rows", "columns")]
    if not all([_is_answer(question, state[question]) for question in others]):
        return False
    rules = Rules(sheet, state)
    # The sizes go first: the rules are not made for elements outside of the result.
    for question in sizes + others:
        if rules.apply(question) != ("answer", state[question]):
            return False
    return True


def _rules_if_undecided(sheet, value):
    """The rules on the settled state; raises NotUndecided if it is no undecided question there."""
    state = settle(sheet)
    if not _is_open_question(sheet, state, value):
        raise NotUndecided(value)
    return Rules(sheet, state)


def _answers_of_correct_steps(sheet, steps):
    """The answers of the steps before the first one that is not correct."""
    answers = {}
    rules = Rules(sheet, answers)
    for step in steps:
        if not isinstance(step, tuple) or len(step) != 2:
            return answers
        question, answer = step
        if not _is_open_question(sheet, answers, question) or isinstance(answer, bool):
            return answers
        if rules.apply(question) != ("answer", answer):
            return answers
        answers[question] = answer
    return answers


def _is_open_question(sheet, answers, value):
    """Whether any value is a question of the sheet under the answers that has no answer there."""
    return is_question(sheet, answers, value) and value not in answers


def _has_sizes(sheet, state):
    """Whether a dict has the rows and columns of every formula, and they can be sizes."""
    sizes = [(kind, cell) for kind in ("rows", "columns") for cell in formulas_of(sheet)]
    return all([is_integer_between(state.get(size), 1, GRID_SIZE) for size in sizes])


def _has_exactly_its_questions(sheet, state):
    """Whether the keys of a dict are the questions of the sheet under this dict."""
    if not all([is_question(sheet, state, key) for key in state]):
        return False
    return len(state) == len(questions_of(sheet, state))


def _is_answer(question, value):
    """Whether any value can be the answer to a question that is not about a size."""
    if question[0] == "status":
        return value in STATUSES
    return is_scalar(value)
