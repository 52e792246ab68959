"""Routines of programs that are being carried out."""


class Frame:
    """A routine that is being carried out.

    The key is what its outcome is kept under: its address, and the row and column of the
    element that is worked out. On the stack lie the answers that it has so far, the last on top.
    """

    def __init__(self, key):
        self.key = key
        self.at, self.row, self.column = key
        self.stack = []

    def top(self):
        """The last answer."""
        return self.stack[-1]

    def repeat(self):
        """Lets the instruction that is being carried out be the next one again."""
        self.at -= 1
