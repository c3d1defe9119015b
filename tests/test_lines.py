"""[A1]: lines and what each one says."""

import string
import unittest

from scopefree.programs import Program
from tests.small import refusal

STATEMENT = (0, "statement")


def told(line):
    """What one line says in a program in which it fits."""
    whole = {
        "{": "{\n}",
        "if ? {": "if ? {\n} else {\n}",
        "while ? {": "while ? {\n}",
    }
    return Program(whole.get(line, line)).statements[0]


class Told(unittest.TestCase):
    def test_numbers(self):
        for number in (0, 1, 9, 10, 99, 100, 999):
            self.assertEqual(told(f"x = {number}"), ("number", "x", number))

    def test_a_number_is_told_as_an_integer(self):
        self.assertIs(type(told("x = 1")[2]), int)

    def test_assignments(self):
        self.assertEqual(told("x = y"), ("copy", "x", "y"))
        self.assertEqual(told("x = [y, z]"), ("pair", "x", "y", "z"))
        self.assertEqual(told("x = y.head"), ("head", "x", "y"))
        self.assertEqual(told("x = y.tail"), ("tail", "x", "y"))

    def test_one_variable_may_stand_in_each_place(self):
        self.assertEqual(told("x = x"), ("copy", "x", "x"))
        self.assertEqual(told("x = [x, x]"), ("pair", "x", "x", "x"))
        self.assertEqual(told("x = x.head"), ("head", "x", "x"))
        self.assertEqual(told("x = x.tail"), ("tail", "x", "x"))

    def test_print(self):
        self.assertEqual(told("print x"), ("print", "x"))

    def test_lines_of_scopes(self):
        self.assertEqual(told("{"), ("block",))
        self.assertEqual(told("if ? {"), ("if",))
        self.assertEqual(told("while ? {"), ("while",))
        text = "{\n}\nif ? {\n} else {\n}\nwhile ? {\n}"
        self.assertEqual(
            Program(text).statements,
            (("block",), ("end",), ("if",), ("else",), ("end",), ("while",), ("end",)),
        )

    def test_each_letter_is_a_variable(self):
        for letter in string.ascii_lowercase:
            self.assertEqual(told(f"{letter} = 7"), ("number", letter, 7))
            self.assertEqual(told(f"print {letter}"), ("print", letter))
            self.assertEqual(told(f"q = {letter}"), ("copy", "q", letter))
            self.assertEqual(told(f"q = {letter}.head"), ("head", "q", letter))
            self.assertEqual(told(f"q = [{letter}, q]"), ("pair", "q", letter, "q"))
            self.assertEqual(told(f"q = [q, {letter}]"), ("pair", "q", "q", letter))


class Lines(unittest.TestCase):
    def test_spaces_ahead_do_not_count(self):
        program = Program("   a = 5\n     {\n print a\n    }")
        self.assertEqual(program.lines, ("a = 5", "{", "print a", "}"))

    def test_empty_lines_and_lines_of_spaces_are_left_out(self):
        program = Program("\n\n  \na = 5\n \n\nb = a\n")
        self.assertEqual(program.lines, ("a = 5", "b = a"))
        self.assertEqual(program.statements, (("number", "a", 5), ("copy", "b", "a")))

    def test_texts_without_lines(self):
        for text in ("", "\n", "\n\n\n", " ", "   \n  \n"):
            program = Program(text)
            self.assertEqual(program.lines, ())
            self.assertEqual(program.statements, ())
            self.assertEqual(program.line_depths, ())
            self.assertEqual(program.variables, "")
            self.assertEqual(program.text(), "")

    def test_a_line_feed_at_the_end(self):
        self.assertEqual(Program("a = 5\n").lines, ("a = 5",))

    def test_variables_ascending_each_once(self):
        self.assertEqual(Program("z = [b, z]\nprint m\nb = c.tail").variables, "bcmz")
        self.assertEqual(Program("a = 1").variables, "a")


class WrongLines(unittest.TestCase):
    def says_nothing(self, *lines):
        for line in lines:
            self.assertEqual(refusal(line), STATEMENT, repr(line))
            self.assertEqual(refusal("a = 1\n\n  " + line + "\n}"), (1, "statement"), repr(line))

    def test_spaces_behind(self):
        self.says_nothing(
            "a = 5 ", "a = b ", "a = [b, c] ", "a = b.head ", "a = b.tail ", "print a ",
            "{ ", "if ? { ", "} else { ", "while ? { ", "} ",
        )

    def test_spaces_within(self):
        self.says_nothing(
            "a  = 5", "a =  5", "a= 5", "a =5", "a=5", "a = [b,c]", "a = [b,  c]", "a = [ b, c]",
            "a = [b, c ]", "a = [b , c]", "a = b .head", "a = b. head", "print  a", "printa",
            "if ?{", "if? {", "if  ? {", "if ?  {", "while ?{", "while? {", "} else{", "}else {",
            "}  else {", "} else  {", "a = 1 0",
        )

    def test_tabs_carriage_returns_and_other_signs(self):
        self.says_nothing(
            "\ta = 5", "a\t= 5", "a =\t5", "a = 5\t", "a = 5\r", "\ra = 5", "\r", "\t", "\x0b",
            "{\r", "}\r", "print a\r", "\u00a0a = 5", "a = 5\u00a0", "a = 5\x0bb = 5",
            "a = 5\x0cb = 5", "a = 5\rb = 5", "a = 5\u2028b = 5", "a = 5\x85b = 5", "a = 5;",
            "# a", "a = 5 # five", "\ufeffa = 5",
        )

    def test_numbers_in_another_form(self):
        self.says_nothing(
            "a = 05", "a = 00", "a = 000", "a = 007", "a = 1000", "a = 9999", "a = 0999",
            "a = -1", "a = -0", "a = +1", "a = 1.0", "a = 1_0", "a = 0x1", "a = 1e1", "a = ",
            "a = \u0663", "a = 1\u0663", "a = \u00b2", "a = \uff11", "a = \u2460", "a = 5a",
        )

    def test_no_other_sign_is_a_digit_or_a_letter(self):
        for sign in map(chr, range(0x3000)):
            if sign not in string.digits + "\n":
                self.assertEqual(refusal(f"a = 1{sign}"), STATEMENT, repr(sign))
                self.assertEqual(refusal(f"a = {sign}1"), STATEMENT, repr(sign))
            if sign not in string.ascii_lowercase + "\n":
                self.assertEqual(refusal(f"print {sign}"), STATEMENT, repr(sign))
                self.assertEqual(refusal(f"a = [{sign}, b]"), STATEMENT, repr(sign))

    def test_names_in_another_form(self):
        self.says_nothing(
            "A = 5", "a = B", "a = [B, c]", "a = [b, C]", "a = B.head", "print A", "ab = 5",
            "a = bc", "a = [bb, c]", "a = [b, cc]", "a = bb.head", "a = bb.tail", "print ab",
            "_ = 5", "1 = 5", "\u00e4 = 5", "a = \u00e4", "print \u00e4", "print 5", "a = `",
            "a = {", "print {", "print `", " = 5", "= 5", "print ", "print", "a", "5",
        )

    def test_parts_in_another_form(self):
        self.says_nothing(
            "a = b.Head", "a = b.HEAD", "a = b.heads", "a = b.hea", "a = b.", "a = .head",
            "a = b.head.tail", "a = 5.head", "a = [b, c].head", "b.head", "a = bhead",
            "a = b,tail", "a.head = b", "a = head",
        )

    def test_pairs_in_another_form(self):
        self.says_nothing(
            "a = [b]", "a = []", "a = [b, c, d]", "a = [b, 5]", "a = [5, b]", "a = (b, c)",
            "a = [b; c]", "a = [b, c", "a = b, c]", "a = b, c", "a = [b, [c, d]]", "[b, c]",
            "a = {b, c]", "a = [b, c}", "a = [b. c]", "a = [b, c]]", "a = [[b, c]",
        )

    def test_lines_of_scopes_in_another_form(self):
        self.says_nothing(
            "{}", "{{", "}}", "{ }", "(", "if {", "if ?", "if ? ", "if a {", "IF ? {", "If ? {",
            "while {", "while ?", "while a {", "While ? {", "else {", "} else", "else", "} Else {",
            "} else if ? {", "} elif ? {", "if ? {}", "if ! {", "end", "block", "if", "while",
            "} else {}", "print", "Print a", "print(a)", "print a b", "a = b = c", "a == b",
        )


if __name__ == "__main__":
    unittest.main()
