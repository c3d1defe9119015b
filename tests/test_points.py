"""[B1]: points, edges and scopes."""

import unittest

from scopefree.programs import Program
from tests.small import plain_programs, program_of

EXAMPLE = "if ? {\na = [b, b]\n} else {\n}\nwhile ? {\n}"


class ExampleOfTheDocument(unittest.TestCase):
    def test_example(self):
        program = Program(EXAMPLE)
        self.assertEqual(program.depths, (0, 1, 1, 1, 0, 1, 0))
        self.assertEqual(
            program.edges,
            (
                (0, "enter 1", 1), (0, "enter 2", 3), (1, "a = [b, b]", 2), (2, "leave 1", 4),
                (3, "leave 2", 4), (4, "enter 3", 5), (4, "pass", 6), (5, "leave 3", 4),
            ),
        )
        self.assertEqual(program.parents, (None, 0, 0, 0))
        self.assertEqual(program.followers, ((1, 3), (2,), (4,), (4,), (5, 6), (4,), ()))
        self.assertEqual(program.scope_depths, (0, 1, 1, 1))
        self.assertEqual(program.point_scopes, (0, 1, 1, 2, 0, 3, 0))
        self.assertEqual(program.loops, (3,))


class Edges(unittest.TestCase):
    def test_each_assignment_and_print_is_its_own_label(self):
        rows = ("x = 5", "x = y", "x = [y, x]", "x = y.head", "x = y.tail", "print x")
        self.assertEqual(
            Program("\n".join(rows)).edges,
            tuple((at, row, at + 1) for at, row in enumerate(rows)),
        )

    def test_a_label_has_no_spaces_ahead(self):
        self.assertEqual(Program("   a = 5").edges, ((0, "a = 5", 1),))

    def test_block(self):
        program = Program("{\na = 1\n}")
        self.assertEqual(program.edges, ((0, "enter 1", 1), (1, "a = 1", 2), (2, "leave 1", 3)))
        self.assertEqual(program.followers, ((1,), (2,), (3,), ()))
        self.assertEqual(program.loops, ())

    def test_branch(self):
        program = Program("if ? {\na = 1\n} else {\na = 2\n}\na = 3")
        self.assertEqual(
            program.edges,
            (
                (0, "enter 1", 1), (0, "enter 2", 3), (1, "a = 1", 2), (2, "leave 1", 5),
                (3, "a = 2", 4), (4, "leave 2", 5), (5, "a = 3", 6),
            ),
        )
        self.assertEqual(program.loops, ())

    def test_loop(self):
        program = Program("a = 0\nwhile ? {\na = 1\n}\na = 2")
        self.assertEqual(
            program.edges,
            (
                (0, "a = 0", 1), (1, "enter 1", 2), (1, "pass", 4), (2, "a = 1", 3),
                (3, "leave 1", 1), (4, "a = 2", 5),
            ),
        )
        self.assertEqual(program.loops, (1,))

    def test_empty_scopes(self):
        self.assertEqual(Program("{\n}").edges, ((0, "enter 1", 1), (1, "leave 1", 2)))
        self.assertEqual(
            Program("if ? {\n} else {\n}").edges,
            ((0, "enter 1", 1), (0, "enter 2", 2), (1, "leave 1", 3), (2, "leave 2", 3)),
        )
        self.assertEqual(
            Program("while ? {\n}").edges,
            ((0, "enter 1", 1), (0, "pass", 2), (1, "leave 1", 0)),
        )

    def test_no_lines(self):
        program = Program("\n  \n")
        self.assertEqual(program.depths, (0,))
        self.assertEqual(program.edges, ())
        self.assertEqual(program.followers, ((),))
        self.assertEqual(program.parents, (None,))
        self.assertEqual(program.scope_depths, (0,))
        self.assertEqual(program.point_scopes, (0,))
        self.assertEqual(program.loops, ())
        self.assertEqual(program.scopes_around(0), (0,))


class Scopes(unittest.TestCase):
    def test_scopes_within_scopes(self):
        text = "while ? {\nif ? {\n{\n}\n} else {\nwhile ? {\n}\n}\n}\n{\n}"
        program = Program(text)
        self.assertEqual(program.parents, (None, 0, 1, 2, 1, 4, 0))
        self.assertEqual(program.scope_depths, (0, 1, 2, 3, 2, 3, 1))
        self.assertEqual(program.point_scopes, (0, 1, 2, 3, 2, 4, 5, 4, 1, 0, 6, 0))
        self.assertEqual(program.depths, (0, 1, 2, 3, 2, 2, 3, 2, 1, 0, 1, 0))
        self.assertEqual(program.loops, (1, 5))
        self.assertEqual(
            program.edges,
            (
                (0, "enter 1", 1), (0, "pass", 9), (1, "enter 2", 2), (1, "enter 4", 5),
                (2, "enter 3", 3), (3, "leave 3", 4), (4, "leave 2", 8), (5, "enter 5", 6),
                (5, "pass", 7), (6, "leave 5", 5), (7, "leave 4", 8), (8, "leave 1", 0),
                (9, "enter 6", 10), (10, "leave 6", 11),
            ),
        )
        around = [program.scopes_around(scope) for scope in range(7)]
        self.assertEqual(
            around, [(0,), (1, 0), (2, 1, 0), (3, 2, 1, 0), (4, 1, 0), (5, 4, 1, 0), (6, 0)]
        )

    def test_scopes_directly_behind_one_another(self):
        program = Program("{\n}\nwhile ? {\n}\n{\n}")
        self.assertEqual(program.parents, (None, 0, 0, 0))
        self.assertEqual(program.point_scopes, (0, 1, 0, 2, 0, 3, 0))
        self.assertEqual(program.loops, (2,))

    def test_all_small_programs(self):
        for plain in plain_programs(7):
            program = program_of(plain)
            self.assertEqual(program.edges, tuple(plain.edges))
            self.assertEqual(program.depths, tuple(plain.depths))
            self.assertEqual(program.parents, tuple(plain.parents))
            self.assertEqual(program.scope_depths, tuple(plain.scope_depths))
            self.assertEqual(program.point_scopes, tuple(plain.point_scopes))
            self.assertEqual(program.loops, tuple(sorted(plain.loops)))
            for point, stops in enumerate(program.followers):
                self.assertEqual(stops, tuple(e[2] for e in plain.edges if e[0] == point))
            self.assertEqual(len(program.followers), len(plain.lines) + 1)


if __name__ == "__main__":
    unittest.main()
