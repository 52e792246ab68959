"""The errors of the package. Each one keeps the very value that it was made with."""


class SheetError(ValueError):
    """Every error that the package raises is one of these."""


class BadAddress(SheetError):
    """A value is not a name of the kind that is needed: of a cell, or of an area."""

    def __init__(self, text):
        SheetError.__init__(self, "not the name of a cell or of an area")
        self.text = text


class BadFormula(SheetError):
    """A value is not the text of an expression; position tells where it goes wrong."""

    def __init__(self, position):
        SheetError.__init__(self, "not the text of an expression")
        self.position = position


class BadContent(SheetError):
    """A value is not the text of a content."""

    def __init__(self, text):
        SheetError.__init__(self, "not the text of a content")
        self.text = text


class OutOfGrid(SheetError):
    """A cell is outside the grid."""

    def __init__(self, cell):
        SheetError.__init__(self, "a cell outside the grid")
        self.cell = cell


class TooLarge(SheetError):
    """So many rows or columns cannot be inserted or deleted there."""

    def __init__(self, count):
        SheetError.__init__(self, "not possible with so many rows or columns")
        self.count = count


class NotUndecided(SheetError):
    """A value is not an undecided question of the sheet."""

    def __init__(self, question):
        SheetError.__init__(self, "not an undecided question of the sheet")
        self.question = question


class NothingToUndo(SheetError):
    """There is no change that could be undone."""

    def __init__(self):
        SheetError.__init__(self)


class NothingToRedo(SheetError):
    """There is no undone change that could be repeated."""

    def __init__(self):
        SheetError.__init__(self)


class BadFile(SheetError):
    """A value is not the text of a sheet; line is the index of the first wrong line."""

    def __init__(self, line):
        SheetError.__init__(self, "not the text of a sheet")
        self.line = line


class BadCommand(SheetError):
    """A value is not a command of the console."""

    def __init__(self, command):
        SheetError.__init__(self, "not a command")
        self.command = command
