"""The instructions of programs that need nothing but the routine they stand in.

A step carries out an instruction on a frame. It returns the outcome of the whole routine if the
routine ends there, and otherwise None. An outcome is ("answer", value) or ("missing", questions).
"""

from spillsheet.grid import GRID_SIZE
from spillsheet.integers import is_integer_between
from spillsheet.missing import joined
from spillsheet.scalars import aggregate, apply_operator, as_number, is_error, negate


# Instructions that end a routine, or go on somewhere else in it.

def _go(frame, address):
    """Goes on at an address."""
    frame.at = address


def _skip_if_positive(frame, count):
    """Leaves out so many instructions if the answer is positive."""
    if frame.top() > 0:
        frame.at += count


def _push(frame, value):
    """Takes a value as an answer."""
    frame.stack.append(value)


def _give(_, value):
    """Ends with a value."""
    return ("answer", value)


def _end(frame):
    """Ends with the answer."""
    return ("answer", frame.top())


def _end_if(frame, value):
    """Ends with the answer if it is this one."""
    if frame.top() == value:
        return ("answer", value)
    return None


def _end_unless(frame, value):
    """Ends with the answer unless it is this one, which is not needed any more."""
    found = frame.stack.pop()
    if found != value:
        return ("answer", found)
    return None


def _give_unless(frame, value, result):
    """Ends with the result unless the answer is this one, which is not needed any more."""
    if frame.stack.pop() != value:
        return ("answer", result)
    return None


def _end_if_error(frame):
    """Ends with the answer if it is an error code."""
    if is_error(frame.top()):
        return ("answer", frame.top())
    return None


# Instructions for the rows and columns.

def _end_if_one(frame):
    """Ends with the outcome of the plain size if it is 1."""
    if frame.top() == ("answer", 1):
        return frame.top()
    return None


def _end_size(frame):
    """Ends with the size that follows from the outcomes of the plain size and of the failure."""
    plain, failure = frame.stack
    plain_kind, plain_found = plain
    failure_kind, failure_found = failure
    if failure_kind == "missing":
        if plain_kind == "missing":
            return ("missing", joined([plain_found, failure_found]))
        return failure
    if failure_found is None:
        return plain
    return ("answer", 1)


def _end_if_single(frame):
    """Ends without a failure if both sizes are 1."""
    if frame.stack == [1, 1]:
        return ("answer", None)
    return None


def _compare_sizes(frame):
    """Ends with the failure of two sizes of which the first is not single."""
    first = frame.stack[:2]
    second = frame.stack[2:]
    if second == [1, 1] or second == first:
        return ("answer", None)
    return ("answer", "#SHAPE")


def _limit_size(frame):
    """Ends with the number if it can be a size, and otherwise with 1."""
    if _is_size(frame.top()):
        return ("answer", frame.top())
    return ("answer", 1)


def _check_sizes(frame):
    """Ends with the failure of two numbers that should be sizes."""
    if all([_is_size(number) for number in frame.stack]):
        return ("answer", None)
    return ("answer", "#SIZE")


# Instructions for scalars.

def _number(frame):
    """Ends with the element as a scalar argument."""
    return ("answer", as_number(frame.top()))


def _negate(frame):
    """Ends with the negation of the element."""
    return ("answer", negate(frame.top()))


def _operate(frame, operator):
    """Ends with what an operator computes from two elements."""
    left, right = frame.stack
    return ("answer", apply_operator(operator, left, right))


def _aggregate(frame, name):
    """Ends with the aggregate of the elements that lie above the rows and columns."""
    return ("answer", aggregate(name, frame.stack[2:]))


def _count_up(frame):
    """Ends with the number of this place in an array of so many columns."""
    return ("answer", frame.row * frame.top() + frame.column + 1)


# Instructions that look for the place of an element in an operand.

def _return_if_single(frame):
    """Turns to the only element of an operand that has only one."""
    if frame.stack == [1, 1]:
        frame.row = 0
        frame.column = 0


def _exchange(frame):
    """Turns to the other side of the diagonal."""
    frame.row, frame.column = frame.column, frame.row


def _locate(frame):
    """Turns to the place with the row and column that are asked for, if it is in the array."""
    row, column, rows, columns = frame.stack
    if not 1 <= row <= rows or not 1 <= column <= columns:
        return ("answer", "#SIZE")
    frame.row = row - 1
    frame.column = column - 1
    return None


def _sort(frame):
    """Ends with the list of the rows in the order of the elements above the rows and columns."""
    numbers = [as_number(scalar) for scalar in frame.stack[2:]]
    order = sorted([(number, row) for row, number in enumerate(numbers)])
    return ("answer", [row for _, row in order])


def _match(frame):
    """Leaves the size of the mask if it goes together with the array."""
    rows, mask_rows, mask_columns = frame.stack
    if mask_columns != 1 or mask_rows != rows:
        return ("answer", "#SHAPE")
    frame.stack = [mask_rows, mask_columns]
    return None


def _select(frame):
    """Ends with the list of the rows that the elements above the rows and columns choose."""
    marks = frame.stack[2:]
    chosen = [row for row, scalar in enumerate(marks) if as_number(scalar) != 0]
    if len(chosen) == 0:
        return ("answer", "#EMPTY")
    return ("answer", chosen)


def _count_chosen(frame):
    """Ends with the number of the chosen rows, or with 1 if choosing them fails."""
    if is_error(frame.top()):
        return ("answer", 1)
    return ("answer", len(frame.top()))


def _pick(frame):
    """Turns to the row that stands at this place in a list of rows."""
    frame.row = frame.top()[frame.row]


# Instructions for TAKE, DROP and STACK.

def _count_taken(frame):
    """Ends with the rows that are taken from an array."""
    rows, number = frame.stack
    if is_error(number):
        return ("answer", 1)
    return ("answer", max(min(abs(number), rows), 1))


def _check_taken(frame):
    """Ends with the failure of a number of rows that are taken."""
    if frame.top() == 0:
        return ("answer", "#SIZE")
    return ("answer", None)


def _from_end(frame):
    """Turns to an element of the last rows; the number of them is negative."""
    number, rows = frame.stack
    frame.row += rows - min(-number, rows)


def _count_left(frame):
    """Ends with the rows that are left of an array when some are dropped."""
    rows, number = frame.stack
    if is_error(number):
        return ("answer", 1)
    return ("answer", max(rows - abs(number), 1))


def _check_dropped(frame):
    """Ends with the failure of a number of rows that are dropped."""
    number, rows = frame.stack
    if abs(number) >= rows:
        return ("answer", "#EMPTY")
    return ("answer", None)


def _pass_dropped(frame):
    """Turns to an element behind the rows that are dropped at the start."""
    frame.row += max(frame.top(), 0)


def _count_stacked(frame):
    """Ends with the rows of two arrays, as far as the grid has so many."""
    return ("answer", min(sum(frame.stack), GRID_SIZE))


def _end_if_different(frame):
    """Ends with a failure if two arrays are not equally wide."""
    second = frame.stack.pop()
    if frame.stack.pop() != second:
        return ("answer", "#SHAPE")
    return None


def _check_stacked(frame):
    """Ends with the failure of the rows of two arrays."""
    if sum(frame.stack) > GRID_SIZE:
        return ("answer", "#SIZE")
    return ("answer", None)


def _find_layer(frame):
    """Chooses the array that the row falls into, and turns to its place there."""
    rows = frame.top()
    if frame.row < rows:
        frame.stack.append(0)
    else:
        frame.row -= rows
        frame.stack.append(1)


# Instructions for choices.

def _choose_if_true(frame):
    """Ends with the first branch if the number is true, and otherwise with the second."""
    if frame.top() != 0:
        return ("answer", 0)
    return ("answer", 1)


def _choose_unless_error(frame):
    """Ends with the first branch unless its element is an error code."""
    if is_error(frame.top()):
        return ("answer", 1)
    return ("answer", 0)


def _end_if_same(frame):
    """Ends with the outcome of both branches if it is the same answer."""
    first, second = frame.stack
    if first[0] == "answer" and first == second:
        return first
    return None


def _end_if_no_choice(frame):
    """Ends unless the last outcome is a branch, which is then the answer."""
    kind, choice = frame.top()
    if kind == "missing":
        return ("missing", joined(_missing_lists(frame.stack)))
    if is_error(choice):
        return ("answer", 1)
    frame.stack.append(choice)
    return None


def _missing_lists(outcomes):
    """The lists of the missing questions of several outcomes."""
    return [found for kind, found in outcomes if kind == "missing"]


def _is_size(number):
    """Whether an array can have so many rows or columns."""
    return is_integer_between(number, 1, GRID_SIZE)


STEPS = {
    "go": _go,
    "skip_if_positive": _skip_if_positive,
    "push": _push,
    "give": _give,
    "end": _end,
    "end_if": _end_if,
    "end_unless": _end_unless,
    "give_unless": _give_unless,
    "end_if_error": _end_if_error,
    "end_if_one": _end_if_one,
    "end_size": _end_size,
    "end_if_single": _end_if_single,
    "compare_sizes": _compare_sizes,
    "limit_size": _limit_size,
    "check_sizes": _check_sizes,
    "number": _number,
    "negate": _negate,
    "operate": _operate,
    "aggregate": _aggregate,
    "count_up": _count_up,
    "return_if_single": _return_if_single,
    "exchange": _exchange,
    "locate": _locate,
    "sort": _sort,
    "match": _match,
    "select": _select,
    "count_chosen": _count_chosen,
    "pick": _pick,
    "count_taken": _count_taken,
    "check_taken": _check_taken,
    "from_end": _from_end,
    "count_left": _count_left,
    "check_dropped": _check_dropped,
    "pass_dropped": _pass_dropped,
    "count_stacked": _count_stacked,
    "end_if_different": _end_if_different,
    "check_stacked": _check_stacked,
    "find_layer": _find_layer,
    "choose_if_true": _choose_if_true,
    "choose_unless_error": _choose_unless_error,
    "end_if_same": _end_if_same,
    "end_if_no_choice": _end_if_no_choice,
}
