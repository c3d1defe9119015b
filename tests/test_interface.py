"""[0.3] and the interface: kinds of values, where names are defined, and what calls leave alone."""

import copy
import inspect
import unittest

from scopefree import errors, lives, programs, reads, runs, scopes
from scopefree.programs import Program

TEXT = "a = 1\nwhile ? {\nif ? {\nb = [a, a]\n} else {\nprint b\n}\n}\n{\nc = [b, b]\n}"

ATTRIBUTES = (
    "lines", "statements", "line_depths", "variables", "sites", "site_scopes", "depths", "edges",
    "followers", "parents", "scope_depths", "point_scopes", "loops",
)


# Each function of parts C to E with arguments; lists stand for tuples, also within.
CALLS = (
    (runs.run, [True, True, False]),
    (runs.visited_points, [True, True, False]),
    (runs.final_values, [True, True, False]),
    (runs.reachable_cells, [True, True, False]),
    (lives.reads_of_run, [True, True, False]),
    (lives.cell_lives, [True, True, False]),
    (lives.plan_of_run, [True, True, False]),
    (lives.released_reads, [True, True, False], [2, 4]),
    (reads.possible_reads,),
    (reads.values_at, 9, "b"),
    (reads.read_after, 0, 2),
    (reads.answers_for, [0, 11, 0], 8),
    (reads.check_scope, 0, 2),
)
READING = TEXT + "\nd = b.head\nd = c.tail\nprint d\nprint a"


def tupled(value):
    """The same with tuples in place of lists."""
    return tuple(value) if isinstance(value, list) else value


def plain(value):
    """True for tuples of tuples, integers, texts and None, and for these themselves."""
    if type(value) is tuple:
        return all(plain(item) for item in value)
    return value is None or type(value) in (int, str, bool)


class Values(unittest.TestCase):
    def test_attributes_are_set_on_the_object(self):
        for text in (TEXT, ""):
            program = Program(text)
            for name in ATTRIBUTES:
                self.assertIn(name, vars(program))
                kind = str if name == "variables" else tuple
                self.assertIs(type(vars(program)[name]), kind, name)
                self.assertTrue(plain(vars(program)[name]), name)

    def test_items_within_are_tuples(self):
        program = Program(TEXT)
        for name in ("statements", "site_scopes", "edges", "followers"):
            for item in getattr(program, name):
                self.assertIs(type(item), tuple, name)

    def test_no_number_is_true_or_false(self):
        program = Program(TEXT)
        for name in ("line_depths", "depths", "scope_depths", "point_scopes", "sites", "loops"):
            for number in getattr(program, name):
                self.assertIs(type(number), int, name)

    def test_methods_and_functions(self):
        program = Program(TEXT)
        self.assertIs(type(program.text()), str)
        told = [
            program.scopes_around(2),
            scopes.answers_to(program, 3),
            scopes.possible_lows(program, 3, 3),
            scopes.loops_around(program, 0),
            scopes.loops_around(program, 1),
        ]
        for value in told:
            self.assertIs(type(value), tuple)
            self.assertTrue(plain(value))
        self.assertIs(type(scopes.common_scope(program, 0, 3)), int)
        for answer in scopes.answers_to(program, 3):
            self.assertIs(type(answer), bool)

    def test_functions_of_runs_lives_and_reads(self):
        program = Program(READING)
        for call, *more in CALLS:
            value = call(program, *more)
            self.assertTrue(plain(value), call)
            kind = {"read_after": bool, "check_scope": type(None)}.get(call.__name__, tuple)
            self.assertIs(type(value), kind, call)
            if kind is tuple:
                self.assertNotEqual(value, (), call)
            self.assertEqual(call(program, *map(tupled, more)), value, call)

    def test_functions_of_runs_lives_and_reads_change_nothing(self):
        program = Program(READING)
        ahead = copy.deepcopy(vars(program))
        for call, *more in CALLS:
            given = copy.deepcopy(more)
            first = call(program, *more)
            self.assertEqual(more, given, call)
            self.assertEqual(vars(program), ahead, call)
            self.assertEqual(call(program, *more), first, call)
        for call in (reads.check_scope, reads.read_after):
            for site, scope, error in ((2, 0, scopes.NoSite), (0, 3, reads.NoScope)):
                with self.assertRaises(error):
                    call(program, site, scope)
        self.assertEqual(vars(program), ahead)

    def test_answers_and_numbers_of_runs(self):
        program = Program(READING)
        finished, printed, cells = runs.run(program, (True, True, False))
        self.assertEqual((finished, printed), (True, ("pair", 1)))
        self.assertIs(type(finished), bool)
        self.assertEqual(cells, ((0, 1, 1), (1, ("cell", 0), ("cell", 0))))
        for answer in reads.answers_for(program, (0, 11, 0), 8):
            self.assertIs(type(answer), bool)

    def test_calls_change_nothing(self):
        program = Program(TEXT)
        ahead = dict(vars(program))
        scopes.answers_to(program, 3)
        scopes.possible_lows(program, 3, 3)
        scopes.loops_around(program, 0)
        scopes.common_scope(program, 0, 3)
        program.scopes_around(2)
        program.text()
        for call in (scopes.answers_to, scopes.loops_around):
            with self.assertRaises(errors.ScopeError):
                call(program, 99)
        self.assertEqual(vars(program), ahead)

    def test_programs_share_nothing(self):
        first = Program(TEXT)
        ahead = dict(vars(first))
        Program("{\nz = [y, y]\n}")
        self.assertEqual(vars(first), ahead)


class Names(unittest.TestCase):
    def test_each_is_defined_under_its_heading(self):
        listed = {
            errors: ("ScopeError",),
            programs: ("TooLong", "BadProgram", "Program"),
            scopes: (
                "NoPoint", "NoSite", "answers_to", "possible_lows", "loops_around", "common_scope",
            ),
            runs: ("run", "visited_points", "final_values", "reachable_cells"),
            lives: ("reads_of_run", "cell_lives", "plan_of_run", "released_reads"),
            reads: (
                "NoScope", "check_scope", "possible_reads", "values_at", "read_after",
                "answers_for",
            ),
        }
        for module, names in listed.items():
            for name in names:
                self.assertEqual(getattr(module, name).__module__, module.__name__)

    def test_methods_stand_in_the_class_itself(self):
        for name in ("text", "scopes_around"):
            self.assertIn(name, vars(Program))

    def test_arguments(self):
        listed = {
            programs.Program: ["text"],
            programs.BadProgram: ["line", "reason"],
            Program(TEXT).text: [],
            Program(TEXT).scopes_around: ["number"],
            scopes.answers_to: ["program", "point"],
            scopes.possible_lows: ["program", "start", "stop"],
            scopes.loops_around: ["program", "site"],
            scopes.common_scope: ["program", "first", "second"],
            runs.run: ["program", "answers"],
            runs.visited_points: ["program", "answers"],
            runs.final_values: ["program", "answers"],
            runs.reachable_cells: ["program", "answers"],
            lives.reads_of_run: ["program", "answers"],
            lives.cell_lives: ["program", "answers"],
            lives.plan_of_run: ["program", "answers"],
            lives.released_reads: ["program", "answers", "plan"],
            reads.check_scope: ["program", "site", "scope"],
            reads.possible_reads: ["program"],
            reads.values_at: ["program", "point", "variable"],
            reads.read_after: ["program", "site", "scope"],
            reads.answers_for: ["program", "read", "limit"],
        }
        for call, names in listed.items():
            self.assertEqual(list(inspect.signature(call).parameters), names)

    def test_errors(self):
        kinds = (
            programs.TooLong, programs.BadProgram, scopes.NoPoint, scopes.NoSite, reads.NoScope,
        )
        for kind in kinds:
            self.assertTrue(issubclass(kind, errors.ScopeError))
            self.assertIsNot(kind, errors.ScopeError)
        self.assertTrue(issubclass(errors.ScopeError, ValueError))


if __name__ == "__main__":
    unittest.main()
