"""[A2] and [A3]: how lines fit, what a program may have at most, and the order of the reasons."""

import itertools
import unittest

from scopefree.errors import ScopeError
from scopefree.programs import BadProgram, Program, TooLong
from tests.small import LINE, refusal, trees, Plain


def lines(*rows):
    return "\n".join(rows)


def nested(depth, begin="{", inner=()):
    """So many scopes within each other."""
    end = {"{": ["}"], "while ? {": ["}"], "if ? {": ["} else {", "}"]}[begin]
    return lines(*[begin] * depth, *inner, *end * depth)


class Fits(unittest.TestCase):
    def test_every_row_of_scope_lines_is_judged_right(self):
        kinds = (LINE, "{", "if ? {", "} else {", "while ? {", "}")
        for many in range(6):
            right = {tuple(Plain(tree).lines) for tree in trees(many)}
            for row in itertools.product(kinds, repeat=many):
                self.assertEqual(refusal(lines(*row)) is None, row in right, row)

    def test_second_part_needs_an_if(self):
        self.assertEqual(refusal("} else {"), (0, "no if"))
        self.assertEqual(refusal(lines("a = 1", "} else {", "}")), (1, "no if"))
        self.assertEqual(refusal(lines("{", "} else {", "}")), (1, "no if"))
        self.assertEqual(refusal(lines("while ? {", "} else {", "}")), (1, "no if"))
        self.assertEqual(refusal(lines("if ? {", "} else {", "} else {", "}")), (2, "no if"))
        self.assertEqual(refusal(lines("if ? {", "{", "} else {", "}", "}")), (2, "no if"))
        self.assertEqual(refusal(lines("if ? {", "} else {", "}", "} else {")), (3, "no if"))

    def test_end_needs_a_scope(self):
        self.assertEqual(refusal("}"), (0, "no block"))
        self.assertEqual(refusal(lines("{", "}", "}")), (2, "no block"))
        self.assertEqual(refusal(lines("a = 1", "}")), (1, "no block"))
        self.assertEqual(refusal(lines("if ? {", "} else {", "}", "}")), (3, "no block"))

    def test_first_part_needs_a_second(self):
        self.assertEqual(refusal(lines("if ? {", "}")), (1, "else"))
        self.assertEqual(refusal(lines("if ? {", "{", "}", "}")), (3, "else"))
        self.assertEqual(refusal(lines("{", "if ? {", "}", "}")), (2, "else"))

    def test_each_scope_ends(self):
        self.assertEqual(refusal("{"), (0, "open"))
        self.assertEqual(refusal("while ? {"), (0, "open"))
        self.assertEqual(refusal("if ? {"), (0, "open"))
        self.assertEqual(refusal(lines("while ? {", "{")), (1, "open"))
        self.assertEqual(refusal(lines("{", "while ? {", "}")), (0, "open"))
        self.assertEqual(refusal(lines("{", "{", "a = 1", "}")), (0, "open"))
        self.assertEqual(refusal(lines("a = 1", "{", "}", "{", "a = 1")), (3, "open"))

    def test_second_part_that_does_not_end(self):
        self.assertEqual(refusal(lines("if ? {", "a = 1", "} else {")), (2, "open"))
        self.assertEqual(refusal(lines("{", "if ? {", "} else {", "a = 1")), (2, "open"))
        self.assertEqual(refusal(lines("if ? {", "} else {", "{")), (2, "open"))
        self.assertEqual(refusal(lines("if ? {", "} else {", "{", "}")), (1, "open"))


class FirstReason(unittest.TestCase):
    def test_the_first_line_that_does_not_fit_is_told(self):
        self.assertEqual(refusal(lines("a = 1", "}", "nothing", "} else {")), (1, "no block"))
        self.assertEqual(refusal(lines("nothing", "}", "}")), (0, "statement"))
        self.assertEqual(refusal(lines("} else {", "nothing")), (0, "no if"))
        self.assertEqual(refusal(lines("if ? {", "}", "}", "nothing")), (1, "else"))
        self.assertEqual(refusal(lines("}", "} else {")), (0, "no block"))

    def test_lines_that_are_left_out_have_no_number(self):
        self.assertEqual(refusal("\n\n   \n}"), (0, "no block"))
        self.assertEqual(refusal("a = 1\n\n\n  nothing"), (1, "statement"))
        self.assertEqual(refusal("\n{\n\n  \n  {\n\n}\n"), (0, "open"))
        self.assertEqual(refusal("\n a = 1\n\n while ? {\n\n"), (1, "open"))

    def test_a_wrong_line_comes_ahead_of_scopes_left_open(self):
        self.assertEqual(refusal(lines("{", "while ? {", "nothing")), (2, "statement"))
        self.assertEqual(refusal(lines("{", "{", "} else {")), (2, "no if"))
        self.assertEqual(refusal(lines("{", "if ? {", "}")), (2, "else"))


class Bounds(unittest.TestCase):
    def test_characters(self):
        self.assertEqual(Program("a = 5" + "\n" * 3995).lines, ("a = 5",))
        self.assertEqual(Program(" " * 4000).lines, ())
        for text in (" " * 4001, "a = 5" + "\n" * 3996, " " * 3996 + "a = 5"):
            with self.assertRaises(TooLong):
                Program(text)

    def test_too_long_comes_ahead_of_all_else(self):
        tails = ("nothing", "}", "} else {", "{", "if ? {\n}", nested(6), "a = 1\n" * 81)
        for tail in tails:
            with self.assertRaises(TooLong):
                Program(tail + " " * (4001 - len(tail)))
        many = "abcdefg = 1\n" * 400
        with self.assertRaises(TooLong):
            Program(many)

    def test_lines(self):
        self.assertEqual(len(Program("a = 1\n" * 80).lines), 80)
        self.assertEqual(len(Program("a = 1\n\n  \n" * 80).lines), 80)
        self.assertEqual(len(Program("{\n}\n" * 40).lines), 80)
        self.assertEqual(refusal("a = 1\n" * 81), (None, "lines"))
        self.assertEqual(refusal("{\n}\n" * 40 + "a = 1"), (None, "lines"))

    def test_depth(self):
        for begin in ("{", "if ? {", "while ? {"):
            self.assertEqual(max(Program(nested(5, begin)).depths), 5)
            self.assertIsNone(refusal(nested(5, begin, [LINE])))
            self.assertEqual(refusal(nested(6, begin)), (None, "depth"))
            self.assertEqual(refusal(nested(6, begin, [LINE])), (None, "depth"))
            self.assertEqual(refusal(nested(7, begin)), (None, "depth"))

    def test_depth_of_an_empty_scope_within_five_others(self):
        for inner in (["{", "}"], ["while ? {", "}"], ["if ? {", "} else {", "}"]):
            self.assertEqual(refusal(nested(5, "{", inner)), (None, "depth"))
            self.assertIsNone(refusal(nested(4, "{", inner)))

    def test_depth_in_a_second_part(self):
        row = ["if ? {", "} else {"]
        self.assertIsNone(refusal(lines(*row * 5, *["}"] * 5)))
        self.assertEqual(refusal(lines(*row * 6, *["}"] * 6)), (None, "depth"))

    def test_scopes_behind_each_other_add_no_depth(self):
        self.assertIsNone(refusal("{\n}\n" * 6))

    def test_depth_counts_wherever_it_is(self):
        self.assertEqual(refusal(lines(nested(6), "{", "}")), (None, "depth"))
        self.assertEqual(refusal(lines("{", "}", nested(6))), (None, "depth"))

    def test_a_depth_far_beyond(self):
        self.assertEqual(refusal(nested(40)), (None, "depth"))
        self.assertEqual(refusal(nested(1000)), (None, "lines"))

    def test_variables(self):
        six = ["a = [b, c]", "d = e", "print f"]
        self.assertEqual(Program(lines(*six)).variables, "abcdef")
        seventh = (
            "g = 1", "a = g", "a = [g, a]", "a = [a, g]", "a = g.head", "a = g.tail", "print g",
            "g = [a, b]", "g = a.head",
        )
        for line in seventh:
            self.assertEqual(refusal(lines(*six, line)), (None, "variables"), line)
            self.assertEqual(refusal(lines(line, *six)), (None, "variables"), line)

    def test_variables_that_are_never_set(self):
        prints = [f"print {letter}" for letter in "uvwxyz"]
        self.assertEqual(Program(lines(*prints)).variables, "uvwxyz")
        self.assertEqual(refusal(lines(*prints, "print a")), (None, "variables"))

    def test_words_of_lines_are_no_variables(self):
        six = lines("b = [c, d]", "g = j", "print k")
        text = lines("if ? {", "b = c.head", "} else {", "while ? {", "b = c.tail", "}", "}", six)
        self.assertEqual(Program(text).variables, "bcdgjk")


class OrderOfBounds(unittest.TestCase):
    seven = [f"{letter} = 1" for letter in "abcdefg"]

    def test_lines_ahead_of_depth_ahead_of_variables(self):
        filler = ["a = 1"] * 81
        self.assertEqual(refusal(lines(*filler, nested(6), *self.seven)), (None, "lines"))
        self.assertEqual(refusal(lines(*filler, nested(6))), (None, "lines"))
        self.assertEqual(refusal(lines(*filler, *self.seven)), (None, "lines"))
        self.assertEqual(refusal(lines(*self.seven, nested(6))), (None, "depth"))
        self.assertEqual(refusal(lines(nested(6), *self.seven)), (None, "depth"))

    def test_behind_every_reason_that_has_a_line(self):
        over = lines(*["a = 1"] * 80, nested(6), *self.seven)
        self.assertEqual(refusal(lines(over, "nothing")), (99, "statement"))
        self.assertEqual(refusal(lines(over, "} else {")), (99, "no if"))
        self.assertEqual(refusal(lines(over, "}")), (99, "no block"))
        self.assertEqual(refusal(lines(over, "if ? {", "}")), (100, "else"))
        self.assertEqual(refusal(lines(over, "{")), (99, "open"))
        self.assertEqual(refusal(lines(*["{"] * 6)), (5, "open"))
        self.assertEqual(refusal(lines(*self.seven, "{")), (7, "open"))


class Errors(unittest.TestCase):
    def test_errors_are_of_the_package(self):
        for error in (TooLong, BadProgram):
            self.assertTrue(issubclass(error, ScopeError))
        self.assertTrue(issubclass(ScopeError, ValueError))
        self.assertFalse(issubclass(TooLong, BadProgram))
        self.assertFalse(issubclass(BadProgram, TooLong))

    def test_attributes(self):
        error = BadProgram(3, "statement")
        self.assertEqual((error.line, error.reason), (3, "statement"))
        error = BadProgram(None, "lines")
        self.assertEqual((error.line, error.reason), (None, "lines"))


if __name__ == "__main__":
    unittest.main()
