"""From the text form of an expression to its tuple form."""

from spillsheet.errors import BadAddress, BadFormula
from spillsheet.expressions import (
    COMPARISON_LEVEL, FACTOR_LEVEL, FUNCTIONS, LARGEST_DEPTH, OPERATOR_LEVELS, depth_of,
)
from spillsheet.grid import parse_area, parse_cell
from spillsheet.integers import LARGEST_NUMBER
from spillsheet.tokens import token_at

LONGEST_TEXT = 200
MOST_OPEN = 20

OPENING_KINDS = ("(", "function")
OPERAND_KINDS = ("number", "cell", "spill", "range", "badref")


def parse(text):
    """The expression of a text; raises BadFormula for any value that is not such a text."""
    if not isinstance(text, str):
        raise BadFormula(0)
    if len(text) > LONGEST_TEXT:
        raise BadFormula(LONGEST_TEXT)
    tokens = _read_tokens(text)
    _check_tokens(tokens)
    expression = TreeBuilder(tokens).operation(COMPARISON_LEVEL)
    if depth_of(expression) > LARGEST_DEPTH:
        raise BadFormula(0)
    return expression


class OpenText:
    """What the grammar knows of the tokens that were read: which ones can follow them."""

    def __init__(self):
        self.after_operand = False
        # The text itself and what is open in it, the innermost last.
        self.opened = ["text"]
        # For each of these, whether a comparison stands in its current expression.
        self.compared = [False]

    def is_complete(self):
        """Whether the text can end here."""
        return self.after_operand and len(self.opened) == 1

    def can_take(self, kind):
        """Whether a token of this kind can follow."""
        if not self.after_operand:
            if kind in OPENING_KINDS:
                return len(self.opened) <= MOST_OPEN
            return kind == "-" or kind in OPERAND_KINDS
        if kind == ")":
            return len(self.opened) > 1
        if kind == ",":
            return self.opened[-1] == "function"
        if kind in OPERATOR_LEVELS[COMPARISON_LEVEL]:
            return not self.compared[-1]
        return kind not in OPENING_KINDS and kind not in OPERAND_KINDS

    def take(self, kind):
        """Notes that a token of this kind follows."""
        self.after_operand = kind == ")" or kind in OPERAND_KINDS
        if kind in OPENING_KINDS:
            self.opened.append(kind)
            self.compared.append(False)
        elif kind == ")":
            self.opened.pop()
            self.compared.pop()
        elif kind == ",":
            self.compared[-1] = False
        elif kind in OPERATOR_LEVELS[COMPARISON_LEVEL]:
            self.compared[-1] = True


class TreeBuilder:
    """Builds the expression of tokens that are known to be right."""

    def __init__(self, tokens):
        self.tokens = tokens
        self.at = 0

    def operation(self, level):
        """The expression that starts here, with the operators of this level and those above it."""
        if level == FACTOR_LEVEL:
            return self.factor()
        left = self.operation(level + 1)
        while self.next_kind() in OPERATOR_LEVELS[level]:
            operator = self.next_word()
            left = ("binary", operator, left, self.operation(level + 1))
        return left

    def factor(self):
        """The factor that starts here."""
        signs = 0
        # Counted instead of nested: a text may consist of minus signs almost entirely.
        while self.next_kind() == "-":
            self.next_word()
            signs += 1
        expression = self.atom()
        for _ in range(signs):
            expression = ("negate", expression)
        return expression

    def atom(self):
        """The atom that starts here."""
        kind = self.next_kind()
        word = self.next_word()
        if kind == "number":
            return ("number", int(word))
        if kind == "badref":
            # Written as a literal, it would be the same tuple each time.
            return (kind,)
        if kind == "range":
            return ("range",) + parse_area(word)
        if kind == "function":
            return ("call", word[:-1], self.arguments())
        if kind == "(":
            expression = self.operation(COMPARISON_LEVEL)
            self.next_word()
            return expression
        return (kind,) + _cell_of_word(kind, word)

    def arguments(self):
        """The arguments behind a function name, up to the closing parenthesis."""
        found = [self.operation(COMPARISON_LEVEL)]
        while self.next_word() == ",":
            found.append(self.operation(COMPARISON_LEVEL))
        return tuple(found)

    def next_kind(self):
        """The kind of the next token, or the empty string behind the last one."""
        if self.at == len(self.tokens):
            return ""
        return self.tokens[self.at][0]

    def next_word(self):
        """The word of the next token, which is then no longer the next one."""
        word = self.tokens[self.at][1]
        self.at += 1
        return word


def _read_tokens(text):
    """The tokens of a text that satisfies the grammar."""
    tokens = []
    reader = OpenText()
    at = _end_of_spaces(text, 0)
    while at < len(text):
        token = token_at(text, at)
        if token is None or not reader.can_take(token[0]):
            raise BadFormula(at)
        reader.take(token[0])
        tokens.append(token)
        at = _end_of_spaces(text, at + len(token[1]))
    if not reader.is_complete():
        raise BadFormula(len(text))
    return tokens


def _end_of_spaces(text, start):
    """The index of the first character from start on that is not a space."""
    end = start
    while text[end:end + 1] == " ":
        end += 1
    return end


def _check_tokens(tokens):
    """Raises BadFormula at the first token whose word is wrong although the grammar allows it."""
    counts = _argument_counts(tokens)
    for kind, word, start in tokens:
        if kind == "number" and not _is_number_word(word):
            raise BadFormula(start)
        if kind in ("cell", "spill", "range") and not _is_reference_word(kind, word):
            raise BadFormula(start)
        if kind == "function" and counts[start] not in FUNCTIONS.get(word[:-1], ()):
            raise BadFormula(start)


def _argument_counts(tokens):
    """For the start of every function name the number of its arguments."""
    counts = {}
    opened = []
    for kind, _, start in tokens:
        if kind in OPENING_KINDS:
            opened.append(start)
        if kind == "function":
            counts[start] = 1
        if kind == ",":
            counts[opened[-1]] += 1
        if kind == ")":
            opened.pop()
    return counts


def _is_number_word(word):
    """Whether a number is written without leading zeros and is not too large."""
    return word == str(int(word)) and int(word) <= LARGEST_NUMBER


def _is_reference_word(kind, word):
    """Whether the word of a reference names a cell or an area."""
    try:
        if kind == "range":
            parse_area(word)
        else:
            _cell_of_word(kind, word)
    except BadAddress:
        return False
    return True


def _cell_of_word(kind, word):
    """The cell that a cell or spill reference names."""
    if kind == "spill":
        return parse_cell(word[:-1])
    return parse_cell(word)
