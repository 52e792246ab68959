"""A machine that runs the programs of spillsheet.compiler, without recursion.

What every routine comes to for a place is kept. An instruction that asks for what is not kept
yet puts the routine that tells it on top of the others, and is carried out again after that.
"""

from spillsheet.drafts import PARTS
from spillsheet.frames import Frame
from spillsheet.scalars import is_error
from spillsheet.sheets import holds_formula, is_area_inside
from spillsheet.steps import STEPS

NO_REFERENCE = "#REF"


def run_program(program, part, sheet, answers):
    """A part of an expression: ("answer", value) or ("missing", questions)."""
    row = 0
    column = 0
    if part[0] == "element":
        _, row, column = part
    machine = Machine(program, sheet, answers)
    kind, found = machine.run((PARTS.index(part[0]), row, column))
    # Many outcomes are literals, which would be the same tuple each time.
    return (kind, found)


# Instructions that read the sheet and the answers.

def _height(machine, _, top, left, bottom, right):
    """Ends with the rows of an area, as far as it can be read."""
    if not is_area_inside(machine.whole_sheet, (top, left, bottom, right)):
        return ("answer", 1)
    return ("answer", bottom - top + 1)


def _width(machine, _, top, left, bottom, right):
    """Ends with the columns of an area, as far as it can be read."""
    if not is_area_inside(machine.whole_sheet, (top, left, bottom, right)):
        return ("answer", 1)
    return ("answer", right - left + 1)


def _show(machine, frame, top, left, bottom, right):
    """Ends with what a cell of an area shows."""
    if not is_area_inside(machine.whole_sheet, (top, left, bottom, right)):
        return ("answer", NO_REFERENCE)
    return machine.answer_to(("shown", (top + frame.row, left + frame.column)))


def _spill_size(machine, _, kind, row, column):
    """Ends with the rows or columns of the formula in a cell."""
    if not holds_formula(machine.whole_sheet, (row, column)):
        return ("answer", 1)
    return machine.answer_to((kind, (row, column)))


def _spill_failure(machine, _, row, column):
    """Ends with a failure if the formula in a cell is blocked."""
    if not holds_formula(machine.whole_sheet, (row, column)):
        return ("answer", None)
    outcome = machine.answer_to(("status", (row, column)))
    if outcome[0] == "missing":
        return outcome
    if outcome[1] == "blocked":
        return ("answer", "#SPILL")
    return ("answer", None)


def _spill_element(machine, frame, row, column):
    """Ends with an element of the formula in a cell."""
    if not holds_formula(machine.whole_sheet, (row, column)):
        return ("answer", NO_REFERENCE)
    return machine.answer_to(("element", (row, column), frame.row, frame.column))


# Instructions that ask other routines.

def _ask(machine, frame, address):
    """Takes what a routine tells as an answer."""
    return _answered(frame, machine.outcome(frame, (address, 0, 0)))


def _ask_there(machine, frame, address):
    """Takes the element at the same place that a routine tells as an answer."""
    return _answered(frame, machine.outcome(frame, (address, frame.row, frame.column)))


def _choose(machine, frame, first, second):
    """Takes what the routine of the chosen branch tells as an answer."""
    return _ask(machine, frame, _chosen(frame, first, second))


def _choose_there(machine, frame, first, second):
    """Takes the element at the same place of the chosen branch as an answer."""
    return _ask_there(machine, frame, _chosen(frame, first, second))


def _try(machine, frame, address):
    """Takes the outcome of a routine as an answer, whether questions are missing or not."""
    outcome = machine.outcome(frame, (address, 0, 0))
    if outcome is not None:
        frame.stack.append(outcome)


def _each(machine, frame, address, stops_at_errors):
    """Takes all elements that a routine tells as answers, above the rows and columns.

    Each time it takes one of them and is carried out again, until there are as many as needed.
    """
    rows, columns = frame.stack[:2]
    count = len(frame.stack) - 2
    if stops_at_errors and is_error(frame.top()):
        return ("answer", frame.top())
    if count == rows * columns:
        return None
    row, column = divmod(count, columns)
    outcome = machine.outcome(frame, (address, row, column))
    if outcome is not None:
        frame.repeat()
    return _answered(frame, outcome)


def _chosen(frame, first, second):
    """One of two addresses, from the number of a branch."""
    if frame.top() == 0:
        return first
    return second


def _answered(frame, outcome):
    """Takes the value of an outcome as an answer; returns the outcome if questions are missing."""
    if outcome is None:
        return None
    kind, found = outcome
    if kind == "missing":
        return outcome
    frame.stack.append(found)
    return None


READERS = {
    "height": _height,
    "width": _width,
    "show": _show,
    "spill_size": _spill_size,
    "spill_failure": _spill_failure,
    "spill_element": _spill_element,
    "ask": _ask,
    "ask_there": _ask_there,
    "choose": _choose,
    "choose_there": _choose_there,
    "try": _try,
    "each": _each,
}


class Machine:
    """A program, what it reads, and the routines that are being carried out, the last on top."""

    def __init__(self, program, sheet, answers):
        self.program = program
        self.whole_sheet = sheet
        self.answers = answers
        self.frames = []
        self.outcomes = {}

    def run(self, key):
        """The outcome of a routine for a place."""
        self.frames.append(Frame(key))
        while len(self.frames) > 0:
            frame = self.frames[-1]
            outcome = self._step(frame)
            if outcome is not None:
                self.outcomes[frame.key] = outcome
                self.frames.pop()
        return self.outcomes[key]

    def outcome(self, frame, key):
        """The outcome of a routine for a place, or None if the frame has to wait for it."""
        if key not in self.outcomes:
            frame.repeat()
            self.frames.append(Frame(key))
            return None
        return self.outcomes[key]

    def answer_to(self, question):
        """The outcome that is the answer to a question."""
        if question not in self.answers:
            return ("missing", [question])
        return ("answer", self.answers[question])

    def _step(self, frame):
        """Carries out the next instruction of a frame; returns its outcome if it ends there."""
        word, *operands = self.program[frame.at]
        frame.at += 1
        if word in STEPS:
            step = STEPS[word]
            return step(frame, *operands)
        reader = READERS[word]
        return reader(self, frame, *operands)
