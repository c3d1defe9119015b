"""Parts C, D and E, held against tests.naive: the document's words, told as plainly as they stand."""

import functools
import itertools
import random
import unittest

from scopefree.lives import cell_lives, plan_of_run, reads_of_run, released_reads
from scopefree.reads import answers_for, possible_reads, read_after, values_at
from scopefree.runs import final_values, reachable_cells, run, visited_points
from tests.naive import (
    NaiveRun, all_runs, around, random_programs, rows_of_answers, rule_reads, rule_ways, sites,
    variables,
)
from tests.small import program_of

SMALL = [plain for many in range(13) for plain in random_programs(many, 12, many, "abc")]
MIDDLE = random_programs(100, 6, 30, "abcdef") + random_programs(101, 6, 40, "abcd")
# Programs of which reads are known by the rules; no read of them needs more answers than these.
MOST = 7
READING = [
    plain
    for names in ("ab", "abc")
    for many in range(4, 14)
    for plain in random_programs(many * 10 + len(names), 60, many, names)
    if rule_reads(plain, rule_ways(plain))
]


@functools.lru_cache(maxsize=None)
def runs_of(number):
    """What the runs of a program of READING bring."""
    return all_runs(READING[number], MOST)


def random_answers(chance, most):
    return tuple(chance.random() < 0.6 for _ in range(chance.randrange(most + 1)))


class Runs(unittest.TestCase):
    def check(self, plain, answers):
        program = program_of(plain)
        naive = NaiveRun(plain, answers)
        note = (plain.lines, answers)
        told = (naive.finished, tuple(naive.printed), tuple(naive.cells))
        self.assertEqual(run(program, answers), told, note)
        self.assertEqual(visited_points(program, answers), tuple(naive.points), note)
        self.assertEqual(final_values(program, answers), tuple(sorted(naive.values.items())), note)
        self.assertEqual(reachable_cells(program, answers), naive.reachable(), note)
        self.assertEqual(reads_of_run(program, answers), tuple(naive.reads), note)
        self.assertEqual(cell_lives(program, answers), naive.lives(), note)
        self.assertEqual(plan_of_run(program, answers), naive.plan(), note)

    def test_small_programs_with_all_answers(self):
        for plain in SMALL:
            for answers in rows_of_answers(4):
                self.check(plain, answers)

    def test_larger_programs_with_some_answers(self):
        chance = random.Random(1)
        for plain in MIDDLE:
            for _ in range(20):
                self.check(plain, random_answers(chance, 40))

    def test_all_plans_of_small_programs(self):
        for plain in SMALL:
            program = program_of(plain)
            choices = [around(plain, site) for site in range(len(sites(plain)))]
            for plan in itertools.islice(itertools.product(*choices), 30):
                for answers in rows_of_answers(2):
                    found = NaiveRun(plain, answers).released(plan)
                    self.assertEqual(released_reads(program, answers, plan), found)

    def test_the_plan_of_a_run_is_the_one_farthest_inside(self):
        for plain in SMALL:
            program = program_of(plain)
            for answers in rows_of_answers(3):
                best = plan_of_run(program, answers)
                self.assertEqual(released_reads(program, answers, best), ())
                for site, scope in enumerate(best):
                    rows = program.site_scopes[site]
                    for inner in rows[:rows.index(scope)]:
                        plan = best[:site] + (inner,) + best[site + 1:]
                        self.assertNotEqual(released_reads(program, answers, plan), ())


class Reads(unittest.TestCase):
    def test_there_are_enough_programs(self):
        self.assertGreater(len(READING), 200)
        lengths = {len(row) for at in range(len(READING)) for row in runs_of(at)[0].values()}
        self.assertEqual(lengths, set(range(MOST + 1)))

    def test_ways_are_those_of_the_rules(self):
        for plain in SMALL + READING + MIDDLE[::4]:
            program = program_of(plain)
            ways = rule_ways(plain)
            self.assertEqual(possible_reads(program), rule_reads(plain, ways), plain.lines)
            for point in range(0, len(plain.depths), 1 + len(plain.depths) // 12):
                for name in variables(plain) + "z":
                    pairs = sorted((s, low) for s, p, v, low in ways if (p, v) == (point, name))
                    self.assertEqual(values_at(program, point, name), tuple(pairs), plain.lines)

    def test_reads_are_those_of_some_runs(self):
        for number, plain in enumerate(READING):
            reads, _ = runs_of(number)
            self.assertEqual(possible_reads(program_of(plain)), tuple(sorted(reads)), plain.lines)

    def test_first_answers(self):
        for number, plain in enumerate(READING):
            program = program_of(plain)
            for read, answers in runs_of(number)[0].items():
                for limit in range(9):
                    told = answers_for(program, read, limit)
                    right = answers if len(answers) <= limit else None
                    self.assertEqual(told, right, (plain.lines, read, limit))

    def test_reads_after_a_scope_has_ended(self):
        for number, plain in enumerate(READING):
            program = program_of(plain)
            _, ended = runs_of(number)
            for site in range(len(sites(plain))):
                for scope in around(plain, site):
                    told = read_after(program, site, scope)
                    self.assertIs(told, (site, scope) in ended, (plain.lines, site, scope))


if __name__ == "__main__":
    unittest.main()
