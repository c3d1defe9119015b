"""Plans, cells in use, machines and desks for programs as large as they may be, in seconds."""

import time
import unittest

from scopefree.desk import Desk
from scopefree.machine import Machine, lacking_answers
from scopefree.plans import (
    find_fault, is_safe, least_plan, mended, safe_plan_count, unsafe_sites,
)
from scopefree.programs import Program
from scopefree.use import answers_with, greatest_use, greatest_uses, growing_sites, use_of_run
from tests.naive import NaiveRun, random_programs, rule_reads, rule_ways
from tests.naive_plans import NaivePlanned, naive_growing, points_without_greatest, some_plans, story
from tests.small import program_of
from tests.test_large import ALL, SECONDS

ROW = "a = [b, c]\nb = [a, d]\nc = a.head\nd = [c, b]\n"
# 70 sites of a depth of 5, one behind the other.
SITES = "{\n" * 5 + "a = [b, c]\n" * 70 + "}\n" * 5
# Each branch has a site in its second part; the way to all of them takes no at each question.
PARTS = "if ? {\n} else {\na = [a, b]\n}\n" * 20
# Many loops ahead of one that has the site, all of them within loops.
ROUNDS = (
    "while ? {\nwhile ? {\nwhile ? {\n" + "while ? {\nprint a\n}\n" * 20
    + "while ? {\nif ? {\n} else {\nc = [a, c]\n}\n}\n}\n}\n}"
)
# Each round has 39 questions.
LONG = "while ? {\n" + "while ? {\n}\n" * 38 + "a = [b, a]\n}"
NESTED = (
    "{\n" + ROW * 2 + "if ? {\n" + ROW + "while ? {\n" + ROW * 2 + "{\n" + ROW * 2 + "if ? {\n" + ROW
    + "} else {\n" + ROW * 3 + "e = [e, f]\n}\n}\n" + ROW + "}\n" + ROW + "} else {\n" + ROW * 2
    + "e = b.tail\n}\n}"
)
LARGE = ALL + (SITES, PARTS, ROUNDS, LONG, NESTED)


def outermost(program):
    return (0,) * len(program.sites)


def innermost(program):
    return tuple(scopes[0] for scopes in program.site_scopes)


class Large(unittest.TestCase):
    def setUp(self):
        self.begin = time.monotonic()
        self.programs = [Program(text) for text in LARGE]

    def tearDown(self):
        self.assertLess(time.monotonic() - self.begin, SECONDS)

    def plans(self, program):
        return [outermost(program), least_plan(program), mended(program, innermost(program))]

    def test_these_are_about_as_large_as_programs_may_be(self):
        for program in self.programs:
            self.assertGreaterEqual(len(program.lines), 70)
        self.assertEqual(max(len(program.sites) for program in self.programs), 70)

    def test_plans(self):
        for program in self.programs:
            least = least_plan(program)
            inner = innermost(program)
            depths = program.scope_depths
            count = 1
            for scope in least:
                count *= depths[scope] + 1
            self.assertEqual(safe_plan_count(program), count)
            self.assertEqual(mended(program, inner), least)
            wrong = tuple(site for site, scope in enumerate(inner) if scope != least[site])
            self.assertEqual(unsafe_sites(program, inner), wrong)
            self.assertIs(is_safe(program, inner), wrong == ())

    def test_faults_with_limit_8(self):
        found = 0
        for program in self.programs:
            inner = innermost(program)
            answers = find_fault(program, inner, 8)
            if is_safe(program, inner):
                self.assertIsNone(answers)
            if answers is not None:
                found += 1
            self.assertIsNone(find_fault(program, least_plan(program), 8))
        self.assertGreater(found, 1)

    def test_random_programs(self):
        for plain in random_programs(30, 4, 80, "abcdef"):
            program = program_of(plain)
            lows = {}
            for site, _, low in rule_reads(plain, rule_ways(plain)):
                lows[site] = min(low, lows.get(site, low))
            depths = plain.scope_depths
            for site, scope in enumerate(least_plan(program)):
                deepest = depths[program.site_scopes[site][0]]
                self.assertEqual(depths[scope], lows.get(site, deepest))
            for plan in some_plans(plain, 4) + [least_plan(program)]:
                fault = find_fault(program, plan, 8)
                if fault is not None:
                    self.assertNotEqual(NaiveRun(plain, fault).released(plan), ())
                self.assertEqual(growing_sites(program, plan), naive_growing(plain, plan))
                told = greatest_uses(program, plan)
                boundless = points_without_greatest(plain, plan)
                for point, many in enumerate(told):
                    self.assertIs(many is None, point in boundless)
                most = greatest_use(program, plan)
                for many in (1, 3, 75) if most is None else (most, most + 1):
                    answers = answers_with(program, plan, many)
                    self.assertIs(answers is None, most is not None and many > most)
                    if answers is not None:
                        self.assertLessEqual(len(answers), 100 + 100 * many)
                        counts = NaivePlanned(plain, plan, answers).counts()
                        self.assertGreaterEqual(max(counts), many)

    def test_greatest_uses(self):
        for program in self.programs:
            for plan in self.plans(program) + [innermost(program)]:
                told = greatest_uses(program, plan)
                self.assertEqual(len(told), len(program.depths))
                most = None if None in told else max(told)
                self.assertEqual(greatest_use(program, plan), most)
                self.assertIs(most is None, growing_sites(program, plan) != ())

    def test_what_is_known_of_some(self):
        sites, parts, rounds = self.programs[3:6]
        self.assertEqual(greatest_use(sites, outermost(sites)), 70)
        self.assertEqual(greatest_uses(sites, innermost(sites))[-6:], (70, 0, 0, 0, 0, 0))
        self.assertEqual(greatest_use(parts, outermost(parts)), 20)
        self.assertEqual(greatest_use(parts, innermost(parts)), 1)
        self.assertIsNone(greatest_use(rounds, outermost(rounds)))
        self.assertEqual(greatest_use(rounds, innermost(rounds)), 1)

    def test_answers_with_many(self):
        for program in self.programs:
            for plan in self.plans(program):
                most = greatest_use(program, plan)
                for many in (0, 1, 2, 10, 20, 70, 71, 100, 250):
                    answers = answers_with(program, plan, many)
                    if most is not None and many > most:
                        self.assertIsNone(answers)
                    else:
                        self.assertLessEqual(len(answers), 100 + 100 * many)
                        used = use_of_run(program, plan, answers)
                        self.assertGreaterEqual(max(used), many)

    def test_answers_that_lack(self):
        for program in self.programs:
            for plan in self.plans(program):
                most = greatest_use(program, plan)
                for capacity in (0, 1, 19, 20, 63, 64, 69, 70, 75, 200):
                    answers = lacking_answers(program, plan, capacity)
                    if most is not None and capacity >= most:
                        self.assertIsNone(answers)
                        continue
                    self.assertLessEqual(len(answers), 200 + 100 * capacity)
                    used = use_of_run(program, plan, answers)
                    self.assertGreater(max(used), capacity)
                    if capacity <= 64:
                        self.assertEqual(self.last_event(program, plan, capacity, answers), "lack")

    def last_event(self, program, plan, capacity, answers):
        machine = Machine(program, plan, capacity)
        event = machine.go()
        left = list(reversed(answers))
        while event[0] == "print" or (event[0] == "ask" and left):
            event = machine.go() if event[0] == "print" else machine.answer(left.pop())
        return event[0]

    def test_machines(self):
        row = (True, True, False, True, True, False) * 6
        for plain in random_programs(31, 6, 80, "abcdef"):
            program = program_of(plain)
            plan = least_plan(program)
            machine = Machine(program, plan, 64)
            left = list(row)
            for right, memory, taken, words in story(plain, plan, row, 64):
                asked = machine.state() == "asked"
                self.assertEqual(machine.answer(left.pop(0)) if asked else machine.go(), right)
                self.assertEqual((machine.memory(), machine.taken()), (memory, taken))
                self.assertEqual({name: machine.word(name) for name in words}, words)

    def test_desks(self):
        for program in self.programs:
            desk = Desk(program)
            for site, scopes in enumerate(program.site_scopes):
                desk.place(site, scopes[0])
            wrong = unsafe_sites(program, innermost(program))
            self.assertEqual(desk.unsafe_sites(), wrong)
            self.assertEqual(desk.fault(8), find_fault(program, innermost(program), 8))
            self.assertEqual(desk.greatest_use(), greatest_use(program, innermost(program)))
            self.assertEqual(desk.mend(), wrong)
            self.assertEqual(desk.plan(), least_plan(program))
            many = desk.changes()
            self.assertEqual(many, len(program.sites) + 1)
            for _ in range(many):
                desk.undo()
            self.assertEqual(desk.plan(), outermost(program))
            for _ in range(many):
                desk.redo()
            self.assertEqual(desk.plan(), least_plan(program))
            for _ in range(many - 1):
                desk.undo()
            for site in range(len(program.sites)):
                self.assertEqual(desk.tighten(site), least_plan(program)[site])
            self.assertEqual(desk.greatest_use(), greatest_use(program, least_plan(program)))


if __name__ == "__main__":
    unittest.main()
