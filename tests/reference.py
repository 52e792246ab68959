"""Points 11 to 16 of the document once more, word by word: slow, without keeping anything.

It shares no code with the package except for the operators on scalars, which have tests of
their own, so that the package can be compared with it.
"""

from spillsheet.scalars import aggregate, apply_operator, negate

CODES = ("#DIV", "#EMPTY", "#NUM", "#REF", "#SHAPE", "#SIZE", "#SPILL")
SINGLE = ("number", "cell", "badref")
SINGLE_CALLS = ("SUM", "COUNT", "MAX", "MIN", "ROWS", "COLUMNS", "INDEX")


class Missing(Exception):
    def __init__(self, questions):
        super().__init__(questions)
        self.questions = questions


def is_code(scalar):
    return isinstance(scalar, str)


def union(*lists):
    found = []
    for questions in lists:
        for question in questions:
            if question not in found:
                found.append(question)
    return found


class Reference:
    def __init__(self, sheet, answers):
        self.rows_of_grid, self.columns_of_grid, self.contents = sheet
        self.answers = answers

    # The answers dict.

    def ask(self, *question):
        if question not in self.answers:
            raise Missing([question])
        return self.answers[question]

    def inside(self, row, column):
        return 0 <= row < self.rows_of_grid and 0 <= column < self.columns_of_grid

    def formula_at(self, row, column):
        return self.inside(row, column) and isinstance(self.contents.get((row, column)), tuple)

    # Point 12.

    def rows(self, e):
        return self.size(e, self.plain_rows)

    def columns(self, e):
        return self.size(e, self.plain_columns)

    def size(self, e, plain_size):
        try:
            plain = plain_size(e)
        except Missing as lack:
            try:
                failure = self.failure(e)
            except Missing as other:
                raise Missing(union(lack.questions, other.questions)) from None
            if failure is None:
                raise Missing(lack.questions) from None
            return 1
        if plain == 1:
            return 1
        return plain if self.failure(e) is None else 1

    def element(self, e, i, j):
        failure = self.failure(e)
        return failure if failure is not None else self.plain_element(e, i, j)

    def scalar(self, e):
        failure = self.failure(e)
        if failure is not None:
            return failure
        if self.rows(e) != 1:
            return "#SHAPE"
        if self.columns(e) != 1:
            return "#SHAPE"
        element = self.element(e, 0, 0)
        return 0 if element is None else element

    # Point 13: plain rows.

    def plain_rows(self, e):
        if e[0] in SINGLE or e[0] == "call" and e[1] in SINGLE_CALLS:
            return 1
        if e[0] == "range":
            whole = self.inside(e[1], e[2]) and self.inside(e[3], e[4])
            return e[3] - e[1] + 1 if whole else 1
        if e[0] == "spill":
            return self.ask("rows", e[1:]) if self.formula_at(*e[1:]) else 1
        if e[0] == "negate":
            return self.rows(e[1])
        if e[0] == "binary":
            rows = self.rows(e[2])
            return rows if rows != 1 else self.rows(e[3])
        name, arguments = e[1:]
        x = arguments[0]
        if name == "SEQ":
            n = self.scalar(x)
            return n if not is_code(n) and 1 <= n <= 12 else 1
        if name == "TRANSPOSE":
            return self.columns(x)
        if name == "SORT":
            return self.rows(x)
        if name == "FILTER":
            if self.rows(x) == 1:
                return 1
            selection = self.selection(x, arguments[1])
            return 1 if is_code(selection) else len(selection)
        if name in ("TAKE", "DROP"):
            rows = self.rows(x)
            if rows == 1:
                return 1
            n = self.scalar(arguments[1])
            if is_code(n):
                return 1
            if name == "DROP":
                return rows - abs(n) if rows - abs(n) >= 1 else 1
            return 1 if n == 0 else min(abs(n), rows)
        if name == "STACK":
            total = self.rows(x) + self.rows(arguments[1])
            return 12 if total > 12 else total
        if name == "BESIDE":
            return self.rows(x)
        return self.chosen_size(name, arguments, self.rows)

    def plain_columns(self, e):
        if e[0] in SINGLE or e[0] == "call" and e[1] in SINGLE_CALLS:
            return 1
        if e[0] == "range":
            whole = self.inside(e[1], e[2]) and self.inside(e[3], e[4])
            return e[4] - e[2] + 1 if whole else 1
        if e[0] == "spill":
            return self.ask("columns", e[1:]) if self.formula_at(*e[1:]) else 1
        if e[0] == "negate":
            return self.columns(e[1])
        if e[0] == "binary":
            columns = self.columns(e[2])
            return columns if columns != 1 else self.columns(e[3])
        name, arguments = e[1:]
        x = arguments[0]
        if name == "SEQ":
            m = self.scalar(arguments[1]) if len(arguments) == 2 else 1
            return m if not is_code(m) and 1 <= m <= 12 else 1
        if name == "TRANSPOSE":
            return self.rows(x)
        if name in ("SORT", "FILTER", "TAKE", "DROP", "STACK"):
            return self.columns(x)
        if name == "BESIDE":
            total = self.columns(x) + self.columns(arguments[1])
            return 12 if total > 12 else total
        return self.chosen_size(name, arguments, self.columns)

    def chosen_size(self, name, arguments, size):
        both = arguments[-2:]
        found, lacks = [], []
        for branch in both:
            try:
                found.append(size(branch))
            except Missing as lack:
                lacks.append(lack.questions)
        if not lacks and found[0] == found[1]:
            return found[0]
        try:
            if name == "IF":
                c = self.scalar(arguments[0])
                branch = None if is_code(c) else both[0] if c != 0 else both[1]
            else:
                branch = self.replacement(*both)
        except Missing as lack:
            raise Missing(union(*lacks, lack.questions)) from None
        return 1 if branch is None else size(branch)

    # Point 13: failures.

    def failure(self, e):
        if e[0] == "spill" and self.formula_at(*e[1:]):
            return "#SPILL" if self.ask("status", e[1:]) == "blocked" else None
        if e[0] == "negate":
            return self.failure(e[1])
        if e[0] == "binary":
            return self.failure_of_operator(e[2], e[3])
        if e[0] != "call":
            return None
        name, arguments = e[1:]
        x, y = arguments[0], arguments[-1]
        if name in ("TRANSPOSE", "SORT"):
            return self.failure(x)
        if name == "SEQ":
            n = self.scalar(x)
            if is_code(n):
                return n
            m = self.scalar(y) if len(arguments) == 2 else 1
            if is_code(m):
                return m
            return None if 1 <= n <= 12 and 1 <= m <= 12 else "#SIZE"
        if name in ("FILTER", "STACK", "BESIDE"):
            failure = self.failure(x)
            if failure is None:
                failure = self.failure(y)
            if failure is not None:
                return failure
            if name == "FILTER":
                selection = self.selection(x, y)
                return selection if is_code(selection) else None
            across, along = self.columns, self.rows
            if name == "BESIDE":
                across, along = along, across
            first, second = across(x), across(y)
            if first != second:
                return "#SHAPE"
            return "#SIZE" if along(x) + along(y) > 12 else None
        if name in ("TAKE", "DROP"):
            failure = self.failure(x)
            if failure is not None:
                return failure
            n = self.scalar(y)
            if is_code(n):
                return n
            if name == "TAKE":
                return "#SIZE" if n == 0 else None
            return "#EMPTY" if not abs(n) < self.rows(x) else None
        if name == "IF":
            c = self.scalar(x)
            if is_code(c):
                return c
            return self.failure(arguments[1] if c != 0 else arguments[2])
        if name == "IFERROR":
            return self.failure(self.replacement(x, y))
        return None

    def failure_of_operator(self, left, right):
        failure = self.failure(left)
        if failure is None:
            failure = self.failure(right)
        if failure is not None:
            return failure
        rows, columns = self.rows(left), self.columns(left)
        if rows == 1 and columns == 1:
            return None
        other_rows, other_columns = self.rows(right), self.columns(right)
        if other_rows == 1 and other_columns == 1:
            return None
        return None if rows == other_rows and columns == other_columns else "#SHAPE"

    # Point 13: plain elements.

    def plain_element(self, e, i, j):
        if e[0] == "number":
            return e[1]
        if e[0] == "badref":
            return "#REF"
        if e[0] == "cell":
            return self.ask("shown", e[1:]) if self.inside(*e[1:]) else "#REF"
        if e[0] == "range":
            whole = self.inside(e[1], e[2]) and self.inside(e[3], e[4])
            return self.ask("shown", (e[1] + i, e[2] + j)) if whole else "#REF"
        if e[0] == "spill":
            return self.ask("element", e[1:], i, j) if self.formula_at(*e[1:]) else "#REF"
        if e[0] == "negate":
            return negate(self.element(e[1], i, j))
        if e[0] == "binary":
            first = self.element_of_operand(e[2], i, j)
            if is_code(first):
                return first
            return apply_operator(e[1], first, self.element_of_operand(e[3], i, j))
        return self.plain_element_of_call(e[1], e[2], i, j)

    def element_of_operand(self, e, i, j):
        rows, columns = self.rows(e), self.columns(e)
        if rows == 1 and columns == 1:
            return self.element(e, 0, 0)
        return self.element(e, i, j)

    def plain_element_of_call(self, name, arguments, i, j):
        x, y = arguments[0], arguments[-1]
        if name in ("SUM", "COUNT", "MAX", "MIN"):
            return self.aggregate(name, x)
        if name == "ROWS":
            return self.rows(x)
        if name == "COLUMNS":
            return self.columns(x)
        if name == "INDEX":
            return self.indexed(*arguments)
        if name == "SEQ":
            m = self.scalar(y) if len(arguments) == 2 else 1
            return i * m + j + 1
        if name == "TRANSPOSE":
            return self.element(x, j, i)
        if name == "SORT":
            keys = []
            for r in range(self.rows(x)):
                scalar = self.element(x, r, 0)
                if is_code(scalar):
                    return scalar
                keys.append(scalar or 0)
            order = sorted(range(len(keys)), key=lambda r: keys[r])
            return self.element(x, order[i], j)
        if name == "FILTER":
            return self.element(x, self.selection(x, y)[i], j)
        if name == "TAKE":
            n = self.scalar(y)
            if n > 0:
                return self.element(x, i, j)
            rows = self.rows(x)
            return self.element(x, rows - min(-n, rows) + i, j)
        if name == "DROP":
            n = self.scalar(y)
            return self.element(x, i + n if n > 0 else i, j)
        if name == "STACK":
            rows = self.rows(x)
            return self.element(x, i, j) if i < rows else self.element(y, i - rows, j)
        if name == "BESIDE":
            columns = self.columns(x)
            return self.element(x, i, j) if j < columns else self.element(y, i, j - columns)
        if name == "IF":
            return self.element(arguments[1] if self.scalar(x) != 0 else arguments[2], i, j)
        return self.element(self.replacement(x, y), i, j)

    def aggregate(self, name, x):
        failure = self.failure(x)
        if failure is not None:
            return failure
        rows, columns = self.rows(x), self.columns(x)
        scalars = []
        for i in range(rows):
            for j in range(columns):
                scalars.append(self.element(x, i, j))
                if is_code(scalars[-1]) and name != "COUNT":
                    return scalars[-1]
        return aggregate(name, scalars)

    def indexed(self, x, i, j):
        failure = self.failure(x)
        if failure is not None:
            return failure
        row = self.scalar(i)
        if is_code(row):
            return row
        column = self.scalar(j)
        if is_code(column):
            return column
        rows, columns = self.rows(x), self.columns(x)
        if row < 1 or row > rows or column < 1 or column > columns:
            return "#SIZE"
        return self.element(x, row - 1, column - 1)

    def selection(self, x, mask):
        rows, mask_rows, mask_columns = self.rows(x), self.rows(mask), self.columns(mask)
        if mask_columns != 1 or mask_rows != rows:
            return "#SHAPE"
        selected = []
        for r in range(rows):
            scalar = self.element(mask, r, 0)
            if is_code(scalar):
                return scalar
            if scalar is not None and scalar != 0:
                selected.append(r)
        return selected if selected else "#EMPTY"

    def replacement(self, x, y):
        if self.failure(x) is not None:
            return y
        if self.rows(x) != 1:
            return x
        if self.columns(x) != 1:
            return x
        return y if is_code(self.element(x, 0, 0)) else x

    # Points 14 to 16.

    def reaches(self, g, c):
        if g[0] > c[0] or g[1] > c[1]:
            return False
        return not any((row, column) in self.contents and (row, column) != g
                       for row in range(g[0], c[0] + 1) for column in range(g[1], c[1] + 1))

    def formulas(self):
        return sorted(cell for cell, content in self.contents.items() if isinstance(content, tuple))

    def has(self, *question):
        return question in self.answers

    def status(self, f):
        rows, columns = self.ask("rows", f), self.ask("columns", f)
        if rows == 1 and columns == 1:
            return "single"
        bottom, right = f[0] + rows - 1, f[1] + columns - 1
        if not self.inside(bottom, right):
            return "blocked"
        for row in range(f[0], bottom + 1):
            for column in range(f[1], right + 1):
                if (row, column) != f and (row, column) in self.contents:
                    return "blocked"
        lacking = []
        taken = False
        for g in self.formulas():
            if not (g[0] < f[0] and f[1] < g[1] <= right and self.reaches(g, (f[0], g[1]))):
                continue
            status = self.answers.get(("status", g))
            reaching = self.has("rows", g) and g[0] + self.answers["rows", g] - 1 >= f[0]
            if status == "spilled" and reaching:
                taken = True
            elif not (status in ("single", "blocked") or self.has("rows", g) and not reaching):
                lacking += [(kind, g) for kind in ("rows", "status") if not self.has(kind, g)]
        if taken:
            return "blocked"
        if lacking:
            raise Missing(lacking)
        return "spilled"

    def shown(self, c):
        content = self.contents.get(c)
        if isinstance(content, int):
            return content
        if isinstance(content, tuple):
            if self.ask("status", c) == "blocked":
                return "#SPILL"
            return self.ask("element", c, 0, 0)
        lacking = []
        for g in self.formulas():
            if not self.reaches(g, c):
                continue
            status = self.answers.get(("status", g))
            down, right = c[0] - g[0], c[1] - g[1]
            rows, columns = self.answers.get(("rows", g)), self.answers.get(("columns", g))
            short = rows is not None and down >= rows or columns is not None and right >= columns
            if status == "spilled" and not short:
                return self.ask("element", g, down, right)
            if not (status in ("single", "blocked") or short):
                lacking += [(kind, g) for kind in ("rows", "columns", "status")
                            if not self.has(kind, g)]
        if lacking:
            raise Missing(lacking)
        return None

    def rule(self, question):
        kind, cell = question[:2]
        if kind == "status":
            return self.status(cell)
        if kind == "shown":
            return self.shown(cell)
        return self.part(self.contents[cell], (kind,) + question[2:])

    def part(self, e, part):
        if part[0] == "rows":
            return self.rows(e)
        if part[0] == "columns":
            return self.columns(e)
        if part[0] == "failure":
            return self.failure(e)
        return self.element(e, part[1], part[2])


def outcome(work, *arguments):
    try:
        return ("answer", work(*arguments))
    except Missing as lack:
        return ("missing", lack.questions)


def reference_part(expression, part, sheet, answers):
    """What evaluate should return."""
    return outcome(Reference(sheet, answers).part, expression, part)


def reference_rule(sheet, answers, question):
    """What apply_rule should return."""
    return outcome(Reference(sheet, answers).rule, question)


def reference_questions(sheet, answers):
    """What questions_of should return."""
    rows, columns, contents = sheet
    found = [("shown", (row, column)) for row in range(rows) for column in range(columns)]
    for cell, content in contents.items():
        if isinstance(content, tuple):
            found += [("rows", cell), ("columns", cell), ("status", cell)]
            found += [("element", cell, i, j)
                      for i in range(answers.get(("rows", cell), 0))
                      for j in range(answers.get(("columns", cell), 0))]
    return sorted(question for question in found
                  if question[0] != "element"
                  or ("rows", question[1]) in answers and ("columns", question[1]) in answers)


def reference_settled(sheet, source=None):
    """The settled state, by rounds over all questions, in a random order if there is a source."""
    answers = {}
    while True:
        questions = [question for question in reference_questions(sheet, answers)
                     if question not in answers]
        if source is not None:
            source.shuffle(questions)
        before = len(answers)
        for question in questions:
            kind, found = reference_rule(sheet, answers, question)
            if kind == "answer":
                answers[question] = found
        if len(answers) == before:
            return answers
