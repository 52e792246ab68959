"""Random expressions, contents and answers; the caller brings the source of randomness."""

OPERATORS = ["+", "-", "*", "/", "<", "<=", "="]
ARGUMENT_COUNTS = [
    ("SUM", 1), ("COUNT", 1), ("MAX", 1), ("MIN", 1), ("ROWS", 1), ("COLUMNS", 1),
    ("TRANSPOSE", 1), ("SORT", 1), ("SEQ", 1), ("SEQ", 2), ("IFERROR", 2), ("FILTER", 2),
    ("TAKE", 2), ("DROP", 2), ("STACK", 2), ("BESIDE", 2), ("IF", 3), ("INDEX", 3),
]


def random_leaf(source, size):
    """A leaf, whose references mostly lie in a grid of so many rows and columns."""
    kind = source.choice(["number", "number", "cell", "range", "range", "spill", "badref"])
    if kind == "number":
        return ("number", source.choice([0, 1, 1, 2, 2, 3, 3, 4, 5, 12, 13, 10 ** 9]))
    if kind == "badref":
        return source.choice([("badref",), ("cell", 0, 0), ("number", 2)])
    limit = size if source.random() < 0.93 else 12
    row, column = source.randrange(limit), source.randrange(limit)
    if kind == "range":
        bottom = min(11, row + source.randrange(3))
        right = min(11, column + source.randrange(3))
        return ("range", row, column, bottom, right)
    return (kind, row, column)


def random_expression(source, depth, size=12):
    """An expression of at most this depth."""
    if depth == 1 or source.random() < 0.1:
        return random_leaf(source, size)
    choice = source.random()
    if choice < 0.1:
        return ("negate", random_expression(source, depth - 1, size))
    if choice < 0.35:
        left = random_expression(source, depth - 1, size)
        right = random_expression(source, depth - 1, size)
        return ("binary", source.choice(OPERATORS), left, right)
    name, count = source.choice(ARGUMENT_COUNTS)
    arguments = [random_expression(source, depth - 1, size) for _ in range(count)]
    return ("call", name, tuple(arguments))


def random_sheet(source, rows, columns, depth, formulas=0.3, numbers=0.25):
    """A sheet of this size whose formulas have at most this depth."""
    contents = {}
    for row in range(rows):
        for column in range(columns):
            kind = source.random()
            if kind < formulas:
                size = min(rows, columns)
                contents[row, column] = random_expression(source, source.randrange(1, depth + 1), size)
            elif kind < formulas + numbers:
                contents[row, column] = source.choice([0, 1, 1, 2, 2, 3, 4, -1, 10 ** 9])
    return (rows, columns, contents)


def random_answers(source, sheet, share):
    """An answers dict, right or wrong, with about this share of all the answers."""
    rows, columns, contents = sheet
    scalars = [None, 0, 1, 1, 1, 1, 2, 2, 2, 3, 3, -1, -2, 5, "#REF", "#NUM"]
    answers = {}
    for row in range(rows):
        for column in range(columns):
            cell = (row, column)
            if source.random() < share:
                answers["shown", cell] = source.choice(scalars)
            if isinstance(contents.get(cell), tuple):
                _answer_formula(source, answers, cell, share, scalars)
    return answers


def _answer_formula(source, answers, cell, share, scalars):
    status = source.choice(["single", "spilled", "blocked"])
    spilled = False
    if source.random() < share:
        answers["status", cell] = status
        spilled = status == "spilled"
    if spilled or source.random() < share:
        answers["rows", cell] = source.choice([1, 1, 2, 2, 3, 12])
    if spilled or source.random() < share:
        answers["columns", cell] = source.choice([1, 1, 2, 3])
    for i in range(answers.get(("rows", cell), 3)):
        for j in range(answers.get(("columns", cell), 3)):
            if source.random() < share:
                answers["element", cell, i, j] = source.choice(scalars)


def random_spilling_sheet(source, rows, columns, formulas):
    """A sheet of this size with so many formulas, most of which return small arrays."""
    cells = [(row, column) for row in range(rows) for column in range(columns)]
    contents = {}
    for cell in source.sample(cells, min(formulas, len(cells))):
        contents[cell] = _spilling_formula(source, cells)
    for cell in cells:
        if cell not in contents and source.random() < 0.1:
            contents[cell] = source.choice([0, 1, 2, -1])
    return (rows, columns, contents)


def _spilling_formula(source, cells):
    first, second = source.choice(cells), source.choice(cells)
    down, right = ("number", source.randrange(1, 4)), ("number", source.randrange(1, 4))
    cell, spill = ("cell",) + first, ("spill",) + second
    area = ("range", min(first[0], second[0]), min(first[1], second[1]),
            max(first[0], second[0]), max(first[1], second[1]))
    return source.choice([
        ("call", "SEQ", (down, right)),
        ("call", "SEQ", (down, right)),
        ("call", "SEQ", (("binary", "+", ("number", 1), cell), right)),
        ("call", "SEQ", (down, ("binary", "+", ("number", 1), cell))),
        ("call", "IF", (cell, ("call", "SEQ", (down,)), ("call", "SEQ", (("number", 1), right)))),
        ("call", "IF", (("call", "COUNT", (cell,)), ("number", 2), ("call", "SEQ", (down, right)))),
        ("call", "IFERROR", (cell, ("call", "SEQ", (down, right)))),
        ("call", "IFERROR", (spill, area)),
        ("call", "TRANSPOSE", (spill,)),
        ("call", "FILTER", (area, ("binary", "<", ("number", 0), area))),
        ("call", "TAKE", (area, down)),
        ("call", "SUM", (area,)),
        ("call", "STACK", (cell, cell)),
        ("call", "BESIDE", (("call", "ROWS", (spill,)), cell)),
        ("binary", "+", area, cell),
        ("binary", "+", spill, ("number", 1)),
        area, spill, cell,
    ])
