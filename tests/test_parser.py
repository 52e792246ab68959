"""The text form of expressions in spillsheet.parser."""

import copy
import itertools
import random
import unittest

from spillsheet.errors import BadFormula
from spillsheet.expressions import depth_of, is_expression
from spillsheet.parser import parse
from tests.samples import any_values

LETTERS = "ABCDEFGHIJKLMNOPQRSTUVWXYZ"
FUNCTION_COUNTS = {
    "SUM": [1], "COUNT": [1], "MAX": [1], "MIN": [1], "ROWS": [1], "COLUMNS": [1],
    "TRANSPOSE": [1], "SORT": [1], "SEQ": [1, 2], "IFERROR": [2], "FILTER": [2], "TAKE": [2],
    "DROP": [2], "STACK": [2], "BESIDE": [2], "IF": [3], "INDEX": [3],
}
A1 = ("cell", 0, 0)
B2 = ("cell", 1, 1)


def number(n):
    return ("number", n)


def binary(operator, left, right):
    return ("binary", operator, left, right)


def call(name, *arguments):
    return ("call", name, arguments)


class ParserTestCase(unittest.TestCase):
    def check(self, text, expected):
        result = parse(text)
        self.assertEqual(result, expected, msg=repr(text))
        self.assertTrue(is_expression(result))

    def check_bad(self, text, position):
        before = copy.deepcopy(text)
        with self.assertRaises(BadFormula, msg=repr(text)[:200]) as context:
            parse(text)
        self.assertEqual(context.exception.position, position, msg=repr(text)[:200])
        self.assertIs(type(context.exception.position), int)
        self.assertEqual(text, before)


class RightTextsTest(ParserTestCase):
    def test_the_example_of_the_document(self):
        self.check("SUM(A1:A3)*2", binary("*", call("SUM", ("range", 0, 0, 2, 0)), number(2)))

    def test_argument_by_name(self):
        self.assertEqual(parse(text="1"), number(1))

    def test_numbers(self):
        for n in (0, 1, 9, 10, 123, 999999999, 10 ** 9):
            self.check(str(n), number(n))

    def test_all_cells_and_spills(self):
        for row in range(12):
            for column in range(12):
                name = LETTERS[column] + str(row + 1)
                self.check(name, ("cell", row, column))
                self.check(name + "#", ("spill", row, column))

    def test_ranges(self):
        spans = [(low, high) for low in range(12) for high in range(low, 12)]
        for top, bottom in spans:
            for left, right in spans[::5] + spans[-3:]:
                text = f"{LETTERS[left]}{top + 1}:{LETTERS[right]}{bottom + 1}"
                self.check(text, ("range", top, left, bottom, right))

    def test_badref(self):
        self.check("#REF", ("badref",))
        self.check("#REF+#REF", binary("+", ("badref",), ("badref",)))
        self.check("SUM(#REF)", call("SUM", ("badref",)))
        self.assertIsNot(parse("#REF"), parse("#REF"))

    def test_all_operators(self):
        for operator in ("+", "-", "*", "/", "<", "<=", "="):
            self.check("A1" + operator + "B2", binary(operator, A1, B2))

    def test_all_functions(self):
        for name, counts in FUNCTION_COUNTS.items():
            for count in counts:
                arguments = [str(n) for n in range(count)]
                expected = call(name, *[number(n) for n in range(count)])
                self.check(f"{name}({','.join(arguments)})", expected)

    def test_arguments_are_whole_expressions(self):
        self.check(
            "IF(1<2,A1=B2,-3+4)",
            call("IF", binary("<", number(1), number(2)), binary("=", A1, B2),
                 binary("+", ("negate", number(3)), number(4))),
        )
        self.check("SUM((1<2)<3)",
                   call("SUM", binary("<", binary("<", number(1), number(2)), number(3))))
        self.check("STACK(SEQ(1,2),SEQ(3))",
                   call("STACK", call("SEQ", number(1), number(2)), call("SEQ", number(3))))

    def test_precedence(self):
        one, two, three, four = [number(n) for n in (1, 2, 3, 4)]
        self.check("1+2*3", binary("+", one, binary("*", two, three)))
        self.check("1*2+3", binary("+", binary("*", one, two), three))
        self.check("1-2/3", binary("-", one, binary("/", two, three)))
        self.check("1<2+3", binary("<", one, binary("+", two, three)))
        self.check("1+2<=3*4", binary("<=", binary("+", one, two), binary("*", three, four)))
        self.check("1*2=3/4", binary("=", binary("*", one, two), binary("/", three, four)))
        self.check("(1+2)*3", binary("*", binary("+", one, two), three))
        self.check("1*(2+3)", binary("*", one, binary("+", two, three)))
        self.check("(1<2)+3", binary("+", binary("<", one, two), three))

    def test_sums_and_products_associate_to_the_left(self):
        for first, second in itertools.product("+-", repeat=2):
            self.check(f"1{first}2{second}3",
                       binary(second, binary(first, number(1), number(2)), number(3)))
            self.check(f"1{first}(2{second}3)",
                       binary(first, number(1), binary(second, number(2), number(3))))
        for first, second in itertools.product("*/", repeat=2):
            self.check(f"1{first}2{second}3",
                       binary(second, binary(first, number(1), number(2)), number(3)))
            self.check(f"1{first}(2{second}3)",
                       binary(first, number(1), binary(second, number(2), number(3))))
        self.check("1-2-3-4", binary("-", binary("-", binary("-", number(1), number(2)),
                                                 number(3)), number(4)))

    def test_negations(self):
        self.check("-1", ("negate", number(1)))
        self.check("--1", ("negate", ("negate", number(1))))
        self.check("-1*2", binary("*", ("negate", number(1)), number(2)))
        self.check("1*-2", binary("*", number(1), ("negate", number(2))))
        self.check("1--2", binary("-", number(1), ("negate", number(2))))
        self.check("1---2", binary("-", number(1), ("negate", ("negate", number(2)))))
        self.check("-(1+2)", ("negate", binary("+", number(1), number(2))))
        self.check("-A1+B2", binary("+", ("negate", A1), B2))
        self.check("-SUM(-A1#)", ("negate", call("SUM", ("negate", ("spill", 0, 0)))))
        self.check("1<-2", binary("<", number(1), ("negate", number(2))))
        self.check("1<=-2", binary("<=", number(1), ("negate", number(2))))

    def test_parentheses_do_not_appear(self):
        self.check("(((1)))", number(1))
        self.check("((A1))+(B2)", binary("+", A1, B2))
        self.check("(#REF)", ("badref",))

    def test_spaces_before_between_and_after_tokens(self):
        self.check("  1  ", number(1))
        self.check(" A1 + B2 ", binary("+", A1, B2))
        self.check(" SUM( A1:B2 ) ", call("SUM", ("range", 0, 0, 1, 1)))
        self.check("SEQ( 1 , 2 )", call("SEQ", number(1), number(2)))
        self.check(" - - ( 1 ) ", ("negate", ("negate", number(1))))
        self.check("1 <= 2", binary("<=", number(1), number(2)))
        self.check("1 + #REF", binary("+", number(1), ("badref",)))
        self.check(" " * 199 + "7", number(7))
        self.check("7" + " " * 199, number(7))

    def test_tokens_side_by_side(self):
        self.check("1=#REF", binary("=", number(1), ("badref",)))
        self.check("A1#+#REF", binary("+", ("spill", 0, 0), ("badref",)))
        self.check("A1#<=B2#", binary("<=", ("spill", 0, 0), ("spill", 1, 1)))
        self.check("A1:B2-C3", binary("-", ("range", 0, 0, 1, 1), ("cell", 2, 2)))

    def test_up_to_20_open_parentheses(self):
        self.check("(" * 20 + "1" + ")" * 20, number(1))
        self.check("SUM(" + "(" * 19 + "1" + ")" * 20, call("SUM", number(1)))
        self.check("(" * 19 + "SUM(1)" + ")" * 19, call("SUM", number(1)))
        closed_again = "+".join(["(1)"] * 11)
        self.assertEqual(depth_of(parse(closed_again)), 11)
        self.check("(" * 19 + "(1)*(2)" + ")" * 19, binary("*", number(1), number(2)))

    def test_depth_12(self):
        self.assertEqual(depth_of(parse("-" * 11 + "1")), 12)
        self.assertEqual(depth_of(parse("+".join(["1"] * 12))), 12)
        self.assertEqual(depth_of(parse("SUM(" * 11 + "A1" + ")" * 11)), 12)

    def test_200_characters(self):
        text = "1" + " " * 198 + "2"
        self.assertEqual(len(text), 200)
        self.check_bad(text, 199)
        self.check("1+" + " " * 197 + "2", binary("+", number(1), number(2)))


class WrongTokensTest(ParserTestCase):
    """Texts that do not satisfy the grammar."""

    def test_the_examples_of_the_document(self):
        self.check_bad("1+*2", 2)
        self.check_bad("B2#+A13", 4)

    def test_values_that_are_not_strings(self):
        for value in any_values():
            if not isinstance(value, str):
                self.check_bad(value, 0)

    def test_texts_longer_than_200_characters(self):
        for text in ("1" * 201, " " * 201, "1" + " " * 200, "?" * 201, "(" * 300, "\n" * 201,
                     "+".join(["1"] * 200)):
            self.check_bad(text, 200)
        self.check_bad("?" * 200, 0)

    def test_texts_that_end_too_early(self):
        for text in ("", " ", "   ", "1+", "1 + ", "-", "(", "(1", "(1 ", "SUM(", "SUM(1",
                     "SUM(1,", "IF(1,2", "1<", "1<=", "((1)", "1*-", "(SUM(1)", "A1#+"):
            self.check_bad(text, len(text))

    def test_characters_at_which_no_token_starts(self):
        starting = "0123456789()+-*/<=,ABCDEFGHIJKLMNOPQRSTUVWXYZ# "
        for code in [10] + list(range(32, 127)):
            character = chr(code)
            if character not in starting:
                self.check_bad(character, 0)
                self.check_bad(character + "1", 0)
                self.check_bad("1" + character, 1)
                self.check_bad("1 " + character + "+2", 2)
                self.check_bad("1+" + character, 2)
                self.check_bad("SUM(" + character, 4)

    def test_letters_and_signs_that_start_no_token(self):
        for letter in LETTERS:
            self.check_bad(letter, 0)
            self.check_bad(letter + "+1", 0)
            self.check_bad(letter + letter + "1", 0)
            self.check_bad("1+" + letter + " 1", 2)
        for text, position in [
            ("#", 0), ("#RE", 0), ("#ref", 0), ("# REF", 0), ("1+#DIV", 2), ("#REF#", 4),
            ("A1:", 2), ("A1:B", 2), ("A1:2", 2), ("A1 :B2", 3), ("A1: B2", 2), ("A1:B2:C3", 5),
            ("A1#:B2", 3), ("A1##", 3), ("A1 #", 3), ("A1:B2#", 5), ("SUM", 0), ("SUM (1)", 0),
            ("a1", 0), ("Sum(1)", 0), ("sUM(1)", 0), ("A1b", 2), ("1a", 1),
            ("AB12", 0), ("$A$1", 0), ("A$1", 0), ("1>2", 1), ("1.5", 1), ("1;2", 1),
            ("SUM(A)", 4), ("#REFERENCE", 4), ("R1C1", 2), ("\t1", 0), ("1\n", 1), ("\n", 0),
        ]:
            self.check_bad(text, position)

    def test_letters_beyond_ascii_and_digits_of_other_scripts(self):
        for character in ("\u00c4", "\u0410", "\uff21", "\u0661", "\u00b2", "\uff11", "\u00a0"):
            self.check_bad(character, 0)
            self.check_bad("1" + character, 1)
            self.check_bad("A1" + character, 2)

    def test_spaces_inside_tokens(self):
        for text, position in [
            ("A 1", 0), ("1 2", 2), ("A1 2", 3), ("1 < = 2", 4), ("SU M(1)", 0),
            ("A1 # ", 3), ("A1 :A2", 3), ("# REF", 0), ("#R EF", 0),
        ]:
            self.check_bad(text, position)

    def test_tokens_that_cannot_follow(self):
        for text, position in [
            ("+1", 0), ("*1", 0), ("/1", 0), ("<1", 0), ("<=1", 0), ("=1", 0), (")", 0), (",", 0),
            ("()", 1), ("SUM()", 4), ("SUM(,1)", 4), ("SUM(1,)", 6), ("1)", 1), ("(1))", 3),
            ("1,2", 1), ("(1,2)", 2), ("SUM((1,2))", 6), ("1 1", 2), ("1A1", 1), ("A1B2", 2),
            ("A1 B2", 3), ("A1(1)", 2), ("A1SUM(1)", 2), ("1(2)", 1), ("(1)(2)", 3), ("(1)2", 3),
            ("1SUM(2)", 1), ("SUM(1)2", 6), ("SUM(1)(2)", 6), ("1#REF", 1), ("#REF#REF", 4),
            ("#REF1", 4), ("A1#REF", 3), ("A1#REF(1)", 3), ("A1#1", 3), ("A1:B2#REF", 5),
            ("A1:B23C4", 6), ("1++2", 2), ("1-*2", 2), ("1--+2", 3), ("1*/2", 2), ("-*1", 1),
            ("1<<2", 2), ("1<==2", 3), ("1= =2", 3), ("1=<2", 2), ("1=<=2", 2), ("12 A1", 3),
        ]:
            self.check_bad(text, position)

    def test_one_comparison_in_each_expression(self):
        for first, second in itertools.product(("<", "<=", "="), repeat=2):
            self.check_bad(f"1{first}2{second}3", 3 + len(first) - 1)
            self.check_bad(f"SUM(1{first}2{second}3)", 7 + len(first) - 1)
            self.check_bad(f"(1){first}-2{second}3", 6 + len(first) - 1)
            self.check_bad(f"(1{first}2){second}3{first}4", 5 + len(first) + len(second))
            inside = binary(first, number(1), number(2))
            self.check(f"(1{first}2){second}3", binary(second, inside, number(3)))
            self.check(f"3{second}(1{first}2)", binary(second, number(3), inside))
            self.check(f"SEQ(1{first}2,3{second}4)",
                       call("SEQ", inside, binary(second, number(3), number(4))))
            self.check(f"1{first}SUM(3{second}4)",
                       binary(first, number(1), call("SUM", binary(second, number(3), number(4)))))
        self.check_bad("SEQ(1<2,3<4<5)", 11)
        self.check_bad("1<SUM(1<2)<3", 10)

    def test_the_21st_open_parenthesis(self):
        self.check_bad("(" * 21 + "1" + ")" * 21, 20)
        self.check_bad("(" * 21, 20)
        self.check_bad("(" * 20, 20)
        self.check_bad("(" * 20 + "SUM(1)" + ")" * 20, 20)
        self.check_bad("SUM(" + "(" * 20 + "1" + ")" * 21, 23)
        self.check_bad("SUM(" * 21 + "1" + ")" * 21, 80)
        self.check_bad("(" * 20 + "1+(2)" + ")" * 20, 22)
        self.check_bad("(" * 20 + "1+SUM(2)" + ")" * 20, 22)
        self.check_bad("(" * 20 + "XYZ(2)" + ")" * 20, 20)
        self.check_bad("(1)+" + "(" * 21, 24)

    def test_the_first_of_two_faults(self):
        for text, position in [
            ("1+*?", 2), ("?+*", 0), ("1 1 ?", 2), ("1 ? 1", 2), ("?)", 0), (")?", 0),
            ("(" * 21 + "?", 20), ("(" * 20 + "?(", 20), ("?" + "(" * 21, 0), ("1+", 2),
            ("1)+", 1), ("SUM(?", 4), ("SUM()?", 4), ("1<2<3?", 3), ("1<?<", 2),
        ]:
            self.check_bad(text, position)


class WrongWordsTest(ParserTestCase):
    """Texts that satisfy the grammar, but whose tokens are wrong."""

    def test_leading_zeros_of_numbers(self):
        for text, position in [
            ("00", 0), ("01", 0), ("007", 0), ("1+00", 2), ("0+01", 2), ("-00", 1), ("SUM(010)", 4),
            ("0" * 200, 0),
        ]:
            self.check_bad(text, position)
        self.check("0", number(0))
        self.check("10", number(10))

    def test_numbers_that_are_too_large(self):
        self.check("1000000000", number(10 ** 9))
        for text, position in [
            ("1000000001", 0), ("9999999999", 0), ("9" * 200, 0), ("1+1000000001", 2),
            ("-1000000001", 1), ("10000000000", 0),
        ]:
            self.check_bad(text, position)

    def test_rows_and_columns_beyond_the_grid(self):
        for suffix in ("", "#"):
            for text in ("A0", "A13", "A01", "A00", "A012", "A100", "L13", "M1", "Z12", "Z99",
                         "A" + "1" * 100):
                self.check_bad(text + suffix, 0)
                self.check_bad("1+" + text + suffix, 2)
        for text in ("A0:A1", "A1:A13", "A01:A2", "A1:A02", "M1:M2", "A1:M1", "L12:L13", "Z1:Z2"):
            self.check_bad(text, 0)
            self.check_bad("SUM(" + text + ")", 4)

    def test_areas_turned_round(self):
        for text in ("B1:A1", "A2:A1", "B2:A1", "A2:B1", "B1:A2", "L12:A1", "A12:A11", "A10:A9"):
            self.check_bad(text, 0)
            self.check_bad(" " + text, 1)
        self.check("A9:A10", ("range", 8, 0, 9, 0))
        self.check("A1:A1", ("range", 0, 0, 0, 0))

    def test_unknown_names(self):
        for name in ("FOO", "A", "Z", "SU", "SUMS", "SUMSUM", "MINIMUM", "REF", "LET", "ABS"):
            self.check_bad(name + "(1)", 0)
            self.check_bad("1+" + name + "(1)", 2)
            self.check_bad(name + "(1,2,3,4,5)", 0)

    def test_wrong_numbers_of_arguments(self):
        for name, counts in FUNCTION_COUNTS.items():
            for count in range(1, 6):
                text = name + "(" + ",".join(["1"] * count) + ")"
                if count in counts:
                    self.check(text, call(name, *[number(1)] * count))
                else:
                    self.check_bad(text, 0)
                    self.check_bad("-" + text, 1)

    def test_arguments_are_counted_for_each_function_alone(self):
        self.check("SEQ(SUM(1),SUM((2)))",
                   call("SEQ", call("SUM", number(1)), call("SUM", number(2))))
        self.check("SUM(IF(1,2,3))", call("SUM", call("IF", number(1), number(2), number(3))))
        self.check_bad("SUM(SEQ(1,2),3)", 0)
        self.check_bad("IF(SUM(1,2),3,4)", 3)
        self.check_bad("IF(1,SUM(2),SUM(3,4))", 12)

    def test_the_first_wrong_token_counts(self):
        for text, position in [
            ("A13+01", 0), ("01+A13", 0), ("1+01+A13", 2), ("FOO(A13)", 0), ("A13+FOO(1)", 0),
            ("SUM(A13,1)", 0), ("SUM(A13)", 4), ("SEQ(1,B2:A1,3)", 0), ("SEQ(1,B2:A1)", 6),
            ("B2:A1+M1#", 0), ("1000000001<FOO(1)", 0),
        ]:
            self.check_bad(text, position)

    def test_the_grammar_comes_before_wrong_tokens(self):
        for text, position in [
            ("A13+", 4), ("01*)", 3), ("FOO(1", 5), ("FOO()", 4), ("B2:A1 1", 6), ("M1?", 2),
            ("SUM(1,2", 7), ("1000000001+", 11), ("00 00", 3), ("01" + "+(1" * 21, 63),
        ]:
            self.check_bad(text, position)

    def test_depth_13(self):
        self.check_bad("-" * 12 + "1", 0)
        self.check_bad("-" * 199 + "1", 0)
        self.check_bad("+".join(["1"] * 13), 0)
        self.check_bad("+".join(["1"] * 100), 0)
        self.check_bad("SUM(" * 12 + "1" + ")" * 12, 0)
        self.check_bad("  1+" + "-" * 11 + "1", 0)
        self.check_bad("1*" * 12 + "1", 0)

    def test_the_depth_comes_last(self):
        self.check_bad("-" * 12 + "01", 12)
        self.check_bad("-" * 12, 12)
        self.check_bad("-" * 12 + "1)", 13)
        self.check_bad("-" * 12 + "FOO(1)", 12)


WORDS = ["1", "A1", "A1:A2", "SUM(", "SEQ(", "(", ")", ",", "+", "-", "*", "<", "<="]
OPERANDS = {"1", "A1", "A1:A2"}


def can_be_continued(words):
    """Whether some text of the grammar starts with these tokens: by trying all derivations."""
    reached_the_end = []

    def token(at, wanted):
        if at == len(words):
            reached_the_end.append(True)
            return set()
        return {at + 1} if words[at] in wanted else set()

    def then(ends, rule):
        return {end for start in ends for end in rule(start)}

    def repeated(at, rule, separators):
        ends = {at}
        found = set()
        while ends:
            found |= ends
            ends = then(then(ends, lambda end: token(end, separators)), rule) - found
        return found

    def expression(at):
        sums = addition(at)
        return sums | then(then(sums, lambda end: token(end, {"<", "<=", "="})), addition)

    def addition(at):
        return then(product(at), lambda end: repeated(end, product, {"+", "-"}))

    def product(at):
        return then(factor(at), lambda end: repeated(end, factor, {"*", "/"}))

    def factor(at):
        return then(token(at, {"-"}), factor) | atom(at)

    def atom(at):
        closing = lambda end: token(end, {")"})
        grouped = then(then(token(at, {"("}), expression), closing)
        arguments = then(then(token(at, {"SUM(", "SEQ("}), expression),
                         lambda end: repeated(end, expression, {","}))
        return token(at, OPERANDS) | grouped | then(arguments, closing)

    is_whole = len(words) in expression(0)
    return is_whole or bool(reached_the_end), is_whole


def first_fault(words):
    """The index of the first token that cannot follow, their number if it ends too early, or None."""
    for count in range(len(words) + 1):
        can_go_on, is_whole = can_be_continued(words[:count])
        if not can_go_on:
            return count - 1
    return None if is_whole else len(words)


class GrammarTest(ParserTestCase):
    """All short sequences of tokens, and some long ones, against derivations of the grammar."""

    def check_words(self, words):
        fault = first_fault(words)
        text = " ".join(words)
        try:
            position = None
            parse(text)
        except BadFormula as error:
            position = error.position
        if fault is not None:
            self.assertEqual(position, len(" ".join(words[:fault] + [""])) if fault < len(words)
                             else len(text), msg=repr(text))
        elif position is not None:
            # The grammar is satisfied, so the fault is a wrong number of arguments.
            self.assertIn(text[position:position + 4], ("SUM(", "SEQ("), msg=repr(text))

    def test_all_sequences_of_up_to_three_tokens(self):
        for length in range(4):
            for words in itertools.product(WORDS, repeat=length):
                self.check_words(list(words))

    def test_random_sequences(self):
        source = random.Random(20261120)
        for _ in range(1500):
            words = []
            while len(words) < source.randrange(4, 12):
                word = source.choice(WORDS)
                if can_be_continued(words + [word])[0] or source.random() < 0.05:
                    words.append(word)
            self.check_words(words)


if __name__ == "__main__":
    unittest.main()
