"""Programs as large as they may be, and long runs, are answered in seconds."""

import time
import unittest

from scopefree.lives import cell_lives, plan_of_run, reads_of_run, released_reads
from scopefree.programs import Program
from scopefree.reads import answers_for, possible_reads, read_after, values_at
from scopefree.runs import final_values, reachable_cells, run, visited_points
from tests.naive import NaiveRun, random_programs, rule_reads, rule_ways
from tests.small import program_of

# Far more than is needed, so that a slow machine fails none; what grows without bounds takes longer.
SECONDS = 20

NAMES = "abcdef"
PAIRS_AND_READS = "\n".join(
    ["while ? {"]
    + [
        f"{NAMES[at % 6]} = [{NAMES[(at + 1) % 6]}, {NAMES[(at * 5 + 2) % 6]}]\n"
        f"{NAMES[(at + 3) % 6]} = {NAMES[(at * 7 + 4) % 6]}.{('head', 'tail')[at % 2]}"
        for at in range(39)
    ]
    + ["}"]
)
NESTED = "\n".join(
    ["while ? {\na = [b, c]\nb = d.head\nc = [e, f]\nd = c.tail\ne = [a, d]"] * 5
    + ["f = e.head\ne = [e, d]\nd = [f, a]\nc = d.head\nb = c.tail"] * 8
    + ["}", "f = [c, c]"] * 5
)
BRANCHES = "\n".join(
    ["while ? {"]
    + ["if ? {", "a = [a, b]", "b = c.head", "} else {", "c = [b, a]", "d = a.tail", "}"] * 11
    + ["}"]
)
ALL = (PAIRS_AND_READS, NESTED, BRANCHES)


class Large(unittest.TestCase):
    def setUp(self):
        self.begin = time.monotonic()

    def tearDown(self):
        self.assertLess(time.monotonic() - self.begin, SECONDS)

    def test_these_are_as_large_as_programs_may_be(self):
        told = [len(Program(text).lines) for text in ALL]
        self.assertEqual(told, [80, 80, 79])
        self.assertEqual([max(Program(text).depths) for text in ALL], [1, 5, 2])
        self.assertEqual([len(Program(text).variables) for text in ALL], [6, 6, 4])

    def test_values_at_all_points(self):
        for text in ALL:
            program = Program(text)
            for point in range(0, len(program.depths), 4):
                for variable in program.variables:
                    self.assertEqual(type(values_at(program, point, variable)), tuple)

    def test_reads_after_all_scopes(self):
        for text in ALL:
            program = Program(text)
            reads = possible_reads(program)
            for site, scopes in enumerate(program.site_scopes):
                for scope in scopes:
                    depth = program.scope_depths[scope]
                    later = any(read[0] == site and read[2] < depth for read in reads)
                    self.assertIs(read_after(program, site, scope), later)

    def test_answers_for_many_reads(self):
        for text in ALL:
            program = Program(text)
            reads = possible_reads(program)
            self.assertGreater(len(reads), 30)
            for read in reads[::10]:
                answers = answers_for(program, read, 8)
                if answers is not None:
                    found = [told[1:] for told in reads_of_run(program, answers)]
                    self.assertIn(read, found)
            self.assertIsNone(answers_for(program, (0, 0, 0), 8))

    def test_large_programs_by_the_rules(self):
        for plain in random_programs(7, 2, 80, NAMES):
            program = program_of(plain)
            self.assertEqual(len(program.lines), 80)
            self.assertEqual(possible_reads(program), rule_reads(plain, rule_ways(plain)))

    def test_large_programs_with_some_answers(self):
        row = (True, True, False, True, True, True, False, False, True) * 4
        for plain in random_programs(8, 10, 80, NAMES):
            program = program_of(plain)
            naive = NaiveRun(plain, row)
            self.assertEqual(reads_of_run(program, row), tuple(naive.reads))
            self.assertEqual(cell_lives(program, row), naive.lives())

    def test_long_runs(self):
        program = Program(PAIRS_AND_READS)
        many = 2000
        row = (True,) * many + (False,)
        finished, printed, cells = run(program, row)
        self.assertEqual((finished, printed, len(cells)), (True, (), 39 * many))
        self.assertEqual(len(visited_points(program, row)), many * 80 + 2)
        self.assertEqual(len(final_values(program, row)), 6)
        self.assertTrue(set(reachable_cells(program, row)) <= set(range(39 * many)))
        self.assertEqual(len(cell_lives(program, row)), 39 * many)
        plan = plan_of_run(program, row)
        self.assertEqual(released_reads(program, row, plan), ())


if __name__ == "__main__":
    unittest.main()
