"""[A4] and [A5]: depths of lines, the canonical text, and sites."""

import unittest

from scopefree.programs import Program
from tests.small import plain_programs, program_of

NESTED = """
a = 1
{
while ? {
b = [a, a]
if ? {
c = [b, b]
} else {
{
d = [c, c]
}
e = [d, d]
}
}
f = [a, a]
}
print f
a = [f, f]
"""

SHOWN = """a = 1
{
  while ? {
    b = [a, a]
    if ? {
      c = [b, b]
    } else {
      {
        d = [c, c]
      }
      e = [d, d]
    }
  }
  f = [a, a]
}
print f
a = [f, f]"""


def everything(program):
    return (
        program.lines, program.statements, program.line_depths, program.variables,
        program.text(), program.sites, program.site_scopes, program.depths, program.edges,
        program.followers, program.parents, program.scope_depths, program.point_scopes,
        program.loops,
    )


class LineDepths(unittest.TestCase):
    def test_nested(self):
        self.assertEqual(
            Program(NESTED).line_depths, (0, 0, 1, 2, 2, 3, 2, 3, 4, 3, 3, 2, 1, 1, 0, 0, 0)
        )

    def test_example_of_the_document(self):
        program = Program("  a = 5\n\n{\nb = [a, a]\n}")
        self.assertEqual(program.lines, ("a = 5", "{", "b = [a, a]", "}"))
        self.assertEqual(program.line_depths, (0, 0, 1, 0))
        self.assertEqual(program.text(), "a = 5\n{\n  b = [a, a]\n}")

    def test_second_part_stands_at_the_depth_around(self):
        program = Program("if ? {\n} else {\n}")
        self.assertEqual(program.line_depths, (0, 0, 0))
        self.assertEqual(program.text(), "if ? {\n} else {\n}")

    def test_all_small_programs(self):
        for plain in plain_programs(7):
            program = program_of(plain)
            self.assertEqual(program.line_depths, tuple(plain.line_depths))
            shown = ["  " * d + line for d, line in zip(plain.line_depths, plain.lines)]
            self.assertEqual(program.text(), "\n".join(shown))


class CanonicalText(unittest.TestCase):
    def test_nested(self):
        self.assertEqual(Program(NESTED).text(), SHOWN)

    def test_canonical_text_of_the_canonical_text(self):
        self.assertEqual(Program(SHOWN).text(), SHOWN)
        for plain in plain_programs(5):
            text = program_of(plain).text()
            self.assertEqual(Program(text).text(), text)

    def test_two_layouts_tell_the_same(self):
        other = NESTED.replace("\n", "\n\n   \n       ")
        self.assertEqual(everything(Program(NESTED)), everything(Program(SHOWN)))
        self.assertEqual(everything(Program(NESTED)), everything(Program(other)))

    def test_other_lines_tell_another_text(self):
        self.assertNotEqual(Program("a = 1").text(), Program("a = 2").text())


class Sites(unittest.TestCase):
    def test_nested(self):
        program = Program(NESTED)
        self.assertEqual(program.sites, (3, 5, 8, 10, 13, 16))
        self.assertEqual(
            program.site_scopes,
            ((2, 1, 0), (3, 2, 1, 0), (5, 4, 2, 1, 0), (4, 2, 1, 0), (1, 0), (0,)),
        )

    def test_both_parts_of_a_branch(self):
        program = Program("if ? {\na = [a, a]\n} else {\na = [a, a]\n}\na = [a, a]")
        self.assertEqual(program.sites, (1, 3, 5))
        self.assertEqual(program.site_scopes, ((1, 0), (2, 0), (0,)))

    def test_loops_within_each_other(self):
        program = Program("while ? {\na = [a, a]\nwhile ? {\na = [a, a]\n}\na = [a, a]\n}")
        self.assertEqual(program.sites, (1, 3, 5))
        self.assertEqual(program.site_scopes, ((1, 0), (2, 1, 0), (1, 0)))

    def test_no_sites(self):
        for text in ("", "a = 1\nb = a.head\nc = b\nprint c", "while ? {\n}"):
            self.assertEqual(Program(text).sites, ())
            self.assertEqual(Program(text).site_scopes, ())

    def test_example_of_the_document(self):
        program = Program("  a = 5\n\n{\nb = [a, a]\n}")
        self.assertEqual((program.sites, program.site_scopes), ((2,), ((1, 0),)))


if __name__ == "__main__":
    unittest.main()
