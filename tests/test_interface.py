"""[0.3] and the interface: kinds of values, where names are defined, and what calls leave alone."""

import inspect
import unittest

from scopefree import errors, programs, scopes
from scopefree.programs import Program

TEXT = "a = 1\nwhile ? {\nif ? {\nb = [a, a]\n} else {\nprint b\n}\n}\n{\nc = [b, b]\n}"

ATTRIBUTES = (
    "lines", "statements", "line_depths", "variables", "sites", "site_scopes", "depths", "edges",
    "followers", "parents", "scope_depths", "point_scopes", "loops",
)


def plain(value):
    """True for tuples of tuples, integers, texts and None, and for these themselves."""
    if type(value) is tuple:
        return all(plain(item) for item in value)
    return value is None or type(value) in (int, str, bool)


class Values(unittest.TestCase):
    def test_attributes_are_set_on_the_object(self):
        for text in (TEXT, ""):
            program = Program(text)
            for name in ATTRIBUTES:
                self.assertIn(name, vars(program))
                kind = str if name == "variables" else tuple
                self.assertIs(type(vars(program)[name]), kind, name)
                self.assertTrue(plain(vars(program)[name]), name)

    def test_items_within_are_tuples(self):
        program = Program(TEXT)
        for name in ("statements", "site_scopes", "edges", "followers"):
            for item in getattr(program, name):
                self.assertIs(type(item), tuple, name)

    def test_no_number_is_true_or_false(self):
        program = Program(TEXT)
        for name in ("line_depths", "depths", "scope_depths", "point_scopes", "sites", "loops"):
            for number in getattr(program, name):
                self.assertIs(type(number), int, name)

    def test_methods_and_functions(self):
        program = Program(TEXT)
        self.assertIs(type(program.text()), str)
        told = [
            program.scopes_around(2),
            scopes.answers_to(program, 3),
            scopes.possible_lows(program, 3, 3),
            scopes.loops_around(program, 0),
            scopes.loops_around(program, 1),
        ]
        for value in told:
            self.assertIs(type(value), tuple)
            self.assertTrue(plain(value))
        self.assertIs(type(scopes.common_scope(program, 0, 3)), int)
        for answer in scopes.answers_to(program, 3):
            self.assertIs(type(answer), bool)

    def test_calls_change_nothing(self):
        program = Program(TEXT)
        ahead = dict(vars(program))
        scopes.answers_to(program, 3)
        scopes.possible_lows(program, 3, 3)
        scopes.loops_around(program, 0)
        scopes.common_scope(program, 0, 3)
        program.scopes_around(2)
        program.text()
        for call in (scopes.answers_to, scopes.loops_around):
            with self.assertRaises(errors.ScopeError):
                call(program, 99)
        self.assertEqual(vars(program), ahead)

    def test_programs_share_nothing(self):
        first = Program(TEXT)
        ahead = dict(vars(first))
        Program("{\nz = [y, y]\n}")
        self.assertEqual(vars(first), ahead)


class Names(unittest.TestCase):
    def test_each_is_defined_under_its_heading(self):
        listed = {
            errors: ("ScopeError",),
            programs: ("TooLong", "BadProgram", "Program"),
            scopes: (
                "NoPoint", "NoSite", "answers_to", "possible_lows", "loops_around", "common_scope",
            ),
        }
        for module, names in listed.items():
            for name in names:
                self.assertEqual(getattr(module, name).__module__, module.__name__)

    def test_methods_stand_in_the_class_itself(self):
        for name in ("text", "scopes_around"):
            self.assertIn(name, vars(Program))

    def test_arguments(self):
        listed = {
            programs.Program: ["text"],
            programs.BadProgram: ["line", "reason"],
            Program(TEXT).text: [],
            Program(TEXT).scopes_around: ["number"],
            scopes.answers_to: ["program", "point"],
            scopes.possible_lows: ["program", "start", "stop"],
            scopes.loops_around: ["program", "site"],
            scopes.common_scope: ["program", "first", "second"],
        }
        for call, names in listed.items():
            self.assertEqual(list(inspect.signature(call).parameters), names)

    def test_errors(self):
        kinds = (programs.TooLong, programs.BadProgram, scopes.NoPoint, scopes.NoSite)
        for kind in kinds:
            self.assertTrue(issubclass(kind, errors.ScopeError))
            self.assertIsNot(kind, errors.ScopeError)
        self.assertTrue(issubclass(errors.ScopeError, ValueError))


if __name__ == "__main__":
    unittest.main()
