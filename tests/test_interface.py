"""[0.3] and the interface: kinds of values, where names are defined, and what calls leave alone."""

import copy
import inspect
import unittest

from scopefree import desk, errors, lives, machine, plans, programs, reads, runs, scopes, use
from scopefree.programs import Program

TEXT = "a = 1\nwhile ? {\nif ? {\nb = [a, a]\n} else {\nprint b\n}\n}\n{\nc = [b, b]\n}"

ATTRIBUTES = (
    "lines", "statements", "line_depths", "variables", "sites", "site_scopes", "depths", "edges",
    "followers", "parents", "scope_depths", "point_scopes", "loops",
)


# Each function of parts C to H with arguments; lists stand for tuples, also within.
CALLS = (
    (runs.run, [True, True, False]),
    (runs.visited_points, [True, True, False]),
    (runs.final_values, [True, True, False]),
    (runs.reachable_cells, [True, True, False]),
    (lives.reads_of_run, [True, True, False]),
    (lives.cell_lives, [True, True, False]),
    (lives.plan_of_run, [True, True, False]),
    (lives.released_reads, [True, True, False], [2, 4]),
    (reads.possible_reads,),
    (reads.values_at, 9, "b"),
    (reads.read_after, 0, 2),
    (reads.answers_for, [0, 11, 0], 8),
    (reads.check_scope, 0, 2),
    (plans.check_plan, [2, 4]),
    (plans.least_plan,),
    (plans.unsafe_sites, [2, 4]),
    (plans.is_safe, [2, 4]),
    (plans.mended, [2, 4]),
    (plans.safe_plan_count,),
    (plans.find_fault, [2, 4], 8),
    (use.use_of_run, [2, 4], [True, True, False]),
    (use.greatest_use, [2, 4]),
    (use.greatest_uses, [2, 4]),
    (use.growing_sites, [0, 4]),
    (use.answers_with, [0, 4], 1),
    (machine.lacking_answers, [0, 0], 0),
)
# What these return, if it is no tuple.
KINDS = {
    "read_after": bool, "is_safe": bool, "safe_plan_count": int, "greatest_use": int,
    "check_scope": type(None), "check_plan": type(None),
}
READING = TEXT + "\nd = b.head\nd = c.tail\nprint d\nprint a"


def tupled(value):
    """The same with tuples in place of lists."""
    return tuple(value) if isinstance(value, list) else value


def plain(value):
    """True for tuples of tuples, integers, texts and None, and for these themselves."""
    if type(value) is tuple:
        return all(plain(item) for item in value)
    return value is None or type(value) in (int, str, bool)


class Values(unittest.TestCase):
    def test_attributes_are_set_on_the_object(self):
        for text in (TEXT, ""):
            program = Program(text)
            for name in ATTRIBUTES:
                self.assertIn(name, vars(program))
                kind = str if name == "variables" else tuple
                self.assertIs(type(vars(program)[name]), kind, name)
                self.assertTrue(plain(vars(program)[name]), name)

    def test_items_within_are_tuples(self):
        program = Program(TEXT)
        for name in ("statements", "site_scopes", "edges", "followers"):
            for item in getattr(program, name):
                self.assertIs(type(item), tuple, name)

    def test_no_number_is_true_or_false(self):
        program = Program(TEXT)
        for name in ("line_depths", "depths", "scope_depths", "point_scopes", "sites", "loops"):
            for number in getattr(program, name):
                self.assertIs(type(number), int, name)

    def test_methods_and_functions(self):
        program = Program(TEXT)
        self.assertIs(type(program.text()), str)
        told = [
            program.scopes_around(2),
            scopes.answers_to(program, 3),
            scopes.possible_lows(program, 3, 3),
            scopes.loops_around(program, 0),
            scopes.loops_around(program, 1),
        ]
        for value in told:
            self.assertIs(type(value), tuple)
            self.assertTrue(plain(value))
        self.assertIs(type(scopes.common_scope(program, 0, 3)), int)
        for answer in scopes.answers_to(program, 3):
            self.assertIs(type(answer), bool)

    def test_functions_of_parts_c_to_h(self):
        program = Program(READING)
        for call, *more in CALLS:
            value = call(program, *more)
            self.assertTrue(plain(value), call)
            kind = KINDS.get(call.__name__, tuple)
            self.assertIs(type(value), kind, call)
            if kind is tuple:
                self.assertNotEqual(value, (), call)
            self.assertEqual(call(program, *map(tupled, more)), value, call)

    def test_functions_of_parts_c_to_h_change_nothing(self):
        program = Program(READING)
        ahead = copy.deepcopy(vars(program))
        for call, *more in CALLS:
            given = copy.deepcopy(more)
            first = call(program, *more)
            self.assertEqual(more, given, call)
            self.assertEqual(vars(program), ahead, call)
            self.assertEqual(call(program, *more), first, call)
        for call in (reads.check_scope, reads.read_after):
            for site, scope, error in ((2, 0, scopes.NoSite), (0, 3, reads.NoScope)):
                with self.assertRaises(error):
                    call(program, site, scope)
        for call in (plans.check_plan, plans.mended, use.greatest_uses, use.growing_sites):
            for plan in ([0], [2, 3]):
                with self.assertRaises(plans.BadPlan):
                    call(program, plan)
        self.assertEqual(vars(program), ahead)

    def test_machines_and_desks(self):
        program = Program(READING)
        ahead = copy.deepcopy(vars(program))
        plan, other = [0, 0], desk.Desk(program)
        engine = machine.Machine(program, plan, 3)
        told = [engine.go(), engine.answer(True), engine.answer(True), engine.answer(False)]
        self.assertEqual(told[-1], ("print", "pair"))
        told += [engine.go(), engine.go(), engine.memory(), engine.taken()]
        told += [other.place(0, 2), other.mend(), other.plan(), other.undo(), other.redo()]
        told += [other.undo(), other.unsafe_sites(), other.fault(8)]
        for value in told:
            self.assertIs(type(value), tuple)
            self.assertTrue(plain(value))
        self.assertEqual((type(engine.state()), type(engine.word("b"))), (str, int))
        for number in (other.changes(), other.tighten(0)):
            self.assertIs(type(number), int)
        self.assertEqual((plan, vars(program)), ([0, 0], ahead))

    def test_answers_and_numbers_of_runs(self):
        program = Program(READING)
        finished, printed, cells = runs.run(program, (True, True, False))
        self.assertEqual((finished, printed), (True, ("pair", 1)))
        self.assertIs(type(finished), bool)
        self.assertEqual(cells, ((0, 1, 1), (1, ("cell", 0), ("cell", 0))))
        for answer in reads.answers_for(program, (0, 11, 0), 8):
            self.assertIs(type(answer), bool)

    def test_calls_change_nothing(self):
        program = Program(TEXT)
        ahead = dict(vars(program))
        scopes.answers_to(program, 3)
        scopes.possible_lows(program, 3, 3)
        scopes.loops_around(program, 0)
        scopes.common_scope(program, 0, 3)
        program.scopes_around(2)
        program.text()
        for call in (scopes.answers_to, scopes.loops_around):
            with self.assertRaises(errors.ScopeError):
                call(program, 99)
        self.assertEqual(vars(program), ahead)

    def test_programs_share_nothing(self):
        first = Program(TEXT)
        ahead = dict(vars(first))
        Program("{\nz = [y, y]\n}")
        self.assertEqual(vars(first), ahead)


class Names(unittest.TestCase):
    def test_each_is_defined_under_its_heading(self):
        listed = {
            errors: ("ScopeError",),
            programs: ("TooLong", "BadProgram", "Program"),
            scopes: (
                "NoPoint", "NoSite", "answers_to", "possible_lows", "loops_around", "common_scope",
            ),
            runs: ("run", "visited_points", "final_values", "reachable_cells"),
            lives: ("reads_of_run", "cell_lives", "plan_of_run", "released_reads"),
            reads: (
                "NoScope", "check_scope", "possible_reads", "values_at", "read_after",
                "answers_for",
            ),
            plans: (
                "BadPlan", "check_plan", "least_plan", "unsafe_sites", "is_safe", "mended",
                "safe_plan_count", "find_fault",
            ),
            use: (
                "use_of_run", "greatest_use", "greatest_uses", "growing_sites", "answers_with",
            ),
            machine: (
                "UnsafePlan", "BadCapacity", "NoVariable", "NotNow", "Machine", "lacking_answers",
            ),
            desk: ("NothingLeft", "Desk"),
        }
        for module, names in listed.items():
            for name in names:
                self.assertEqual(getattr(module, name).__module__, module.__name__)

    def test_methods_stand_in_the_class_itself(self):
        listed = {
            Program: ("text", "scopes_around"),
            machine.Machine: ("go", "answer", "state", "memory", "taken", "word"),
            desk.Desk: (
                "plan", "changes", "place", "tighten", "mend", "undo", "redo", "unsafe_sites",
                "fault", "greatest_use",
            ),
        }
        for kind, names in listed.items():
            for name in names:
                self.assertIn(name, vars(kind))

    def test_arguments(self):
        listed = {
            programs.Program: ["text"],
            programs.BadProgram: ["line", "reason"],
            Program(TEXT).text: [],
            Program(TEXT).scopes_around: ["number"],
            scopes.answers_to: ["program", "point"],
            scopes.possible_lows: ["program", "start", "stop"],
            scopes.loops_around: ["program", "site"],
            scopes.common_scope: ["program", "first", "second"],
            runs.run: ["program", "answers"],
            runs.visited_points: ["program", "answers"],
            runs.final_values: ["program", "answers"],
            runs.reachable_cells: ["program", "answers"],
            lives.reads_of_run: ["program", "answers"],
            lives.cell_lives: ["program", "answers"],
            lives.plan_of_run: ["program", "answers"],
            lives.released_reads: ["program", "answers", "plan"],
            reads.check_scope: ["program", "site", "scope"],
            reads.possible_reads: ["program"],
            reads.values_at: ["program", "point", "variable"],
            reads.read_after: ["program", "site", "scope"],
            reads.answers_for: ["program", "read", "limit"],
            plans.check_plan: ["program", "plan"],
            plans.least_plan: ["program"],
            plans.unsafe_sites: ["program", "plan"],
            plans.is_safe: ["program", "plan"],
            plans.mended: ["program", "plan"],
            plans.safe_plan_count: ["program"],
            plans.find_fault: ["program", "plan", "limit"],
            use.use_of_run: ["program", "plan", "answers"],
            use.greatest_use: ["program", "plan"],
            use.greatest_uses: ["program", "plan"],
            use.growing_sites: ["program", "plan"],
            use.answers_with: ["program", "plan", "many"],
            machine.NotNow: ["state"],
            machine.Machine: ["program", "plan", "capacity"],
            machine.lacking_answers: ["program", "plan", "capacity"],
            desk.Desk: ["program"],
        }
        for call, names in listed.items():
            self.assertEqual(list(inspect.signature(call).parameters), names)

    def test_arguments_of_methods(self):
        listed = {
            machine.Machine(Program(TEXT), (0, 0), 1): {
                "go": [], "answer": ["yes"], "state": [], "memory": [], "taken": [],
                "word": ["variable"],
            },
            desk.Desk(Program(TEXT)): {
                "plan": [], "changes": [], "place": ["site", "scope"], "tighten": ["site"],
                "mend": [], "undo": [], "redo": [], "unsafe_sites": [], "fault": ["limit"],
                "greatest_use": [],
            },
        }
        for thing, methods in listed.items():
            for name, names in methods.items():
                call = getattr(thing, name)
                self.assertEqual(list(inspect.signature(call).parameters), names)

    def test_errors(self):
        kinds = (
            programs.TooLong, programs.BadProgram, scopes.NoPoint, scopes.NoSite, reads.NoScope,
            plans.BadPlan, machine.UnsafePlan, machine.BadCapacity, machine.NoVariable,
            machine.NotNow, desk.NothingLeft,
        )
        for kind in kinds:
            self.assertTrue(issubclass(kind, errors.ScopeError))
            self.assertIsNot(kind, errors.ScopeError)
        self.assertTrue(issubclass(errors.ScopeError, ValueError))


if __name__ == "__main__":
    unittest.main()
