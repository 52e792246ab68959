"""Programs that are being written.

A program is a list of instructions, an instruction is a tuple: a word and what belongs to it.
A routine is a run of instructions that works out one part of one expression, and its address
is the index of its first instruction. What the instructions do stands in spillsheet.steps and
spillsheet.machine.

The addresses of an expression are a dict from its parts to the addresses of their routines.
"""

# The first instructions of a program lead to the parts of the whole expression, in this order.
PARTS = ("rows", "columns", "failure", "element")


class Draft:
    """A program that is being written."""

    def __init__(self):
        self.program = [("go", 0) for _ in PARTS]
        self.one = self.routine([("give", 1)])
        self.no_failure = self.routine([("give", None)])
        # Expressions that are equal have the same routines. The keys are the caller's.
        self.written = {}

    def routine(self, instructions):
        """Writes a routine and returns its address."""
        address = len(self.program)
        self.program.extend(instructions)
        return address

    def lead_to(self, addresses):
        """Makes this the whole expression."""
        for at, part in enumerate(PARTS):
            self.program[at] = ("go", addresses[part])

    def without_failure(self, rows, columns, element):
        """Writes the routines of an expression that has no failure; returns its addresses."""
        return {
            "rows": self.routine(rows),
            "columns": self.routine(columns),
            "failure": self.no_failure,
            "element": self.routine(element),
        }

    def single(self, element):
        """Writes the routine of the only element of an expression; returns its addresses."""
        return {
            "rows": self.one,
            "columns": self.one,
            "failure": self.no_failure,
            "element": self.routine(element),
        }

    def array(self, failure, rows, columns, element):
        """Writes the routines of an expression from its failure and the plain parts."""
        failure_address = self.routine(failure)
        return {
            "rows": self._size(rows, failure_address),
            "columns": self._size(columns, failure_address),
            "failure": failure_address,
            "element": self.routine(checked(failure_address) + element),
        }

    def scalar_of(self, operand):
        """The address of the routine that works out an operand as a scalar argument."""
        if "scalar" not in operand:
            operand["scalar"] = self.routine(
                checked(operand["failure"]) + [
                    ("ask", operand["rows"]), ("give_unless", 1, "#SHAPE"),
                    ("ask", operand["columns"]), ("give_unless", 1, "#SHAPE"),
                    ("ask", operand["element"]), ("number",),
                ]
            )
        return operand["scalar"]

    def repeated_of(self, operand):
        """The address of the routine for an element of an operand that may have to be repeated."""
        if "repeated" not in operand:
            operand["repeated"] = self.routine([
                ("ask", operand["rows"]), ("ask", operand["columns"]), ("return_if_single",),
                ("ask_there", operand["element"]), ("end",),
            ])
        return operand["repeated"]

    def _size(self, plain, failure):
        """Writes the routine of the rows or columns, from the plain ones and the failure."""
        plain_address = self.routine(plain)
        return self.routine([
            ("try", plain_address), ("end_if_one",), ("try", failure), ("end_size",),
        ])


def told(address):
    """Instructions that end with what a routine tells."""
    return [("ask", address), ("end",)]


def told_there(address):
    """Instructions that end with the element at the same place that a routine tells."""
    return [("ask_there", address), ("end",)]


def checked(failure):
    """Instructions that end with a failure if there is one."""
    return [("ask", failure), ("end_unless", None)]


def scalar_checked(scalar):
    """Instructions that end with a scalar argument if it is an error code."""
    return [("ask", scalar), ("end_if_error",)]


def size_asked(operand):
    """Instructions that ask for the rows and the columns of an operand."""
    return [("ask", operand["rows"]), ("ask", operand["columns"])]
