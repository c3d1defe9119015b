"""[B4]: the bodies of loops around sites, and the common scope of points."""

import unittest

from scopefree.errors import ScopeError
from scopefree.programs import Program
from scopefree.scopes import NoPoint, NoSite, common_scope, loops_around
from tests.small import plain_programs, program_of

NESTED = """
while ? {
  a = [a, a]
  {
    while ? {
      b = [a, a]
      if ? {
        c = [a, a]
      } else {
        while ? {
          d = [a, a]
        }
      }
    }
  }
}
{
  e = [a, a]
}
f = [a, a]
"""


class LoopsAround(unittest.TestCase):
    def test_innermost_first(self):
        program = Program(NESTED)
        told = [loops_around(program, site) for site in range(6)]
        self.assertEqual(told, [(1,), (3, 1), (3, 1), (6, 3, 1), (), ()])

    def test_a_site_behind_a_loop_is_not_in_it(self):
        program = Program("while ? {\na = 1\n}\na = [a, a]")
        self.assertEqual(loops_around(program, 0), ())

    def test_no_site(self):
        for text, many in ((NESTED, 6), ("", 0), ("while ? {\n}", 0)):
            for site in (-1, many, many + 1, -100):
                with self.assertRaises(NoSite):
                    loops_around(Program(text), site)

    def test_all_small_programs(self):
        for plain in plain_programs(6):
            program = program_of(plain)
            for site, line in enumerate(program.sites):
                scope = plain.point_scopes[line]
                loops = []
                while scope != 0:
                    loops.extend([scope] if scope in plain.loops else [])
                    scope = plain.parents[scope]
                self.assertEqual(loops_around(program, site), tuple(loops))


class CommonScope(unittest.TestCase):
    def test_nested(self):
        program = Program(NESTED)
        self.assertEqual(common_scope(program, 9, 9), 6)
        self.assertEqual(common_scope(program, 5, 9), 3)
        self.assertEqual(common_scope(program, 9, 5), 3)
        self.assertEqual(common_scope(program, 1, 5), 1)
        self.assertEqual(common_scope(program, 3, 2), 1)
        self.assertEqual(common_scope(program, 5, 15), 0)
        self.assertEqual(common_scope(program, 0, 5), 0)
        self.assertEqual(common_scope(program, 0, 0), 0)

    def test_two_parts_of_one_branch(self):
        program = Program("if ? {\na = 1\n} else {\na = 2\n}")
        self.assertEqual(common_scope(program, 1, 3), 0)
        self.assertEqual(common_scope(program, 1, 2), 1)
        self.assertEqual(common_scope(program, 3, 4), 2)
        program = Program("while ? {\nif ? {\na = 1\n} else {\na = 2\n}\n}")
        self.assertEqual(common_scope(program, 2, 4), 1)
        self.assertEqual(common_scope(program, 4, 2), 1)

    def test_no_lines(self):
        self.assertEqual(common_scope(Program(""), 0, 0), 0)

    def test_all_small_programs(self):
        for plain in plain_programs(6):
            program = program_of(plain)
            around = [set(program.scopes_around(scope)) for scope in plain.point_scopes]
            for first, some in enumerate(around):
                for second, others in enumerate(around):
                    inner = max(some & others, key=lambda scope: plain.scope_depths[scope])
                    self.assertEqual(common_scope(program, first, second), inner)

    def test_no_point(self):
        program = Program("a = 1\n{\n}")
        for first, second in ((-1, 0), (0, -1), (4, 0), (0, 4), (-1, 4)):
            with self.assertRaises(NoPoint):
                common_scope(program, first, second)

    def test_errors_are_of_the_package(self):
        for error in (NoPoint, NoSite):
            self.assertTrue(issubclass(error, ScopeError))
        self.assertFalse(issubclass(NoPoint, NoSite))
        self.assertFalse(issubclass(NoSite, NoPoint))


if __name__ == "__main__":
    unittest.main()
