"""Parts F to I, held against tests.naive_plans: the document's words, told as they stand."""

import functools
import random
import unittest

from scopefree.desk import Desk, NothingLeft
from scopefree.machine import Machine, lacking_answers
from scopefree.plans import (
    find_fault, is_safe, least_plan, mended, safe_plan_count, unsafe_sites,
)
from scopefree.use import answers_with, greatest_use, greatest_uses, growing_sites, use_of_run
from tests.naive import (
    all_runs, around, random_programs, rows_of_answers, rule_reads, rule_ways, sites,
)
from tests.naive_plans import (
    NaivePlanned, all_plans, goes_no_farther_in, innermost, naive_fault, naive_growing, naive_uses,
    plan_count, planned_depths, points_without_greatest, some_plans, story,
)
from tests.small import program_of

MIDDLE = random_programs(200, 6, 30, "abcdef") + random_programs(201, 6, 40, "abcd")
MOST = 6


def has_late_reads(plain):
    """True if a cell of some site is read when it has a low less than the depth of its site."""
    lines = sites(plain)
    reads = rule_reads(plain, rule_ways(plain))
    return any(low < plain.depths[lines[site]] for site, _, low in reads)


def programs_with(wanted, seed, count, lengths, names):
    """So many programs that are wanted, by turns of these lengths; always the same ones."""
    found = []
    while len(found) < count:
        more = random_programs(seed, 20, lengths[seed % len(lengths)], names)
        found.extend(plain for plain in more if wanted(plain))
        seed += 1
    return found[:count]


# Programs of all kinds, and those of which not all plans are safe, or which have many plans.
SMALL = (
    [plain for many in range(12) for plain in random_programs(many + 50, 6, many, "abc")]
    + programs_with(has_late_reads, 1000, 40, (6, 7, 8, 9), "ab")
    + programs_with(has_late_reads, 2000, 40, (11, 13, 15), "abc")
    + programs_with(lambda plain: plan_count(plain) > 20, 3000, 40, (12, 14, 16), "abc")
)


def most_depths(plain):
    """The depths of the least plan, from the reads by the rules of part E."""
    lows = {}
    for site, _, low in rule_reads(plain, rule_ways(plain)):
        lows.setdefault(site, []).append(low)
    depths = plain.scope_depths
    told = []
    for site in range(len(sites(plain))):
        chain = [depths[scope] for scope in around(plain, site)]
        told.append(max(depth for depth in chain if all(depth <= x for x in lows.get(site, []))))
    return told


@functools.lru_cache(maxsize=None)
def small_with_depths():
    return [(plain, program_of(plain), most_depths(plain)) for plain in SMALL]


def random_answers(chance, most, yes=0.6):
    return tuple(chance.random() < yes for _ in range(chance.randrange(most + 1)))


class Plans(unittest.TestCase):
    def test_there_are_programs_of_all_kinds(self):
        told = [plan_count(plain) for plain in SMALL]
        self.assertGreater(len([count for count in told if count > 20]), 40)
        self.assertIn(0, [len(plain.lines) for plain in SMALL])
        self.assertGreater(len([plain for plain in SMALL if plain.lines and not sites(plain)]), 5)
        fewer = [
            plain for plain, program, _ in small_with_depths()
            if 1 < safe_plan_count(program) < plan_count(plain)
        ]
        self.assertGreater(len(fewer), 20)

    def test_the_least_plan(self):
        for plain, program, depths in small_with_depths():
            least = least_plan(program)
            self.assertEqual(planned_depths(plain, least), depths, plain.lines)
            for site, scope in enumerate(least):
                self.assertIn(scope, around(plain, site))

    def test_plans_are_safe_if_they_go_no_farther_in(self):
        for plain, program, depths in small_with_depths():
            for plan in some_plans(plain, 30):
                pairs = list(enumerate(zip(planned_depths(plain, plan), depths)))
                wrong = tuple(site for site, (depth, limit) in pairs if depth > limit)
                self.assertEqual(unsafe_sites(program, plan), wrong, (plain.lines, plan))
                self.assertIs(is_safe(program, plan), wrong == ())
                told = mended(program, plan)
                right = [min(depth, limit) for _, (depth, limit) in pairs]
                self.assertEqual(planned_depths(plain, told), right)
                for site, scope in enumerate(told):
                    self.assertIn(scope, around(plain, site))

    def test_how_many_plans_are_safe(self):
        for plain, program, _ in small_with_depths():
            if plan_count(plain) <= 300:
                safe = [plan for plan in all_plans(plain) if is_safe(program, plan)]
                self.assertEqual(safe_plan_count(program), len(safe), plain.lines)

    def test_no_run_reads_what_a_safe_plan_released(self):
        for plain, program, _ in small_with_depths():
            reads, _ = all_runs(plain, 5)
            depths = plain.scope_depths
            for plan in some_plans(plain, 10):
                fault = {read[0] for read in reads if read[2] < depths[plan[read[0]]]}
                self.assertLessEqual(fault, set(unsafe_sites(program, plan)), plain.lines)

    def test_each_unsafe_site_is_read_on_some_run(self):
        found = 0
        for plain, program, _ in small_with_depths():
            if len(plain.lines) <= 9:
                reads, _ = all_runs(plain, 7)
                inner = innermost(plain)
                depths = plain.scope_depths
                fault = {read[0] for read in reads if read[2] < depths[inner[read[0]]]}
                self.assertEqual(unsafe_sites(program, inner), tuple(sorted(fault)), plain.lines)
                found += len(fault)
        self.assertGreater(found, 30)

    def test_first_faults(self):
        found = set()
        for plain, program, _ in small_with_depths():
            for plan in some_plans(plain, 3, seed=1):
                first = naive_fault(plain, plan, MOST)
                for limit in range(MOST + 1):
                    right = first if first is not None and len(first) <= limit else None
                    self.assertEqual(find_fault(program, plan, limit), right, (plain.lines, plan))
                found.add(first)
        self.assertGreater(len(found), 8)


class Use(unittest.TestCase):
    def test_counts_of_runs(self):
        chance = random.Random(2)
        for plain in SMALL + MIDDLE:
            program = program_of(plain)
            for plan in some_plans(plain, 4, seed=2):
                for answers in [(), (True,), (False,)] + [random_answers(chance, 20)] * 2:
                    naive = NaivePlanned(plain, plan, answers)
                    told = use_of_run(program, plan, answers)
                    self.assertEqual(told, naive.counts(), (plain.lines, plan, answers))
                    self.assertEqual(naive.in_use, naive.not_released())

    def test_greatest_uses_and_growing_sites(self):
        whole = partly = never = 0
        for plain in SMALL:
            program = program_of(plain)
            for plan in some_plans(plain, 12, seed=3):
                note = (plain.lines, plan)
                right = naive_uses(plain, plan)
                self.assertEqual(greatest_uses(program, plan), right, note)
                self.assertEqual(growing_sites(program, plan), naive_growing(plain, plan), note)
                most = None if None in right else max(right)
                self.assertEqual(greatest_use(program, plan), most, note)
                growth = {point for point, many in enumerate(right) if many is None}
                self.assertEqual(points_without_greatest(plain, plan), growth, note)
                self.assertIs(most is None, naive_growing(plain, plan) != (), note)
                whole += most is None and set(right) == {None}
                partly += most is None and set(right) != {None}
                never += most is not None and most > 1
        self.assertGreater(min(whole, partly, never), 20)

    def test_the_greatest_use_is_reached_and_never_passed(self):
        for plain in [plain for plain in SMALL if len(plain.lines) <= 10]:
            program = program_of(plain)
            for plan in some_plans(plain, 3, seed=4):
                told = greatest_uses(program, plan)
                most = [0] * len(told)
                for answers in rows_of_answers(MOST):
                    naive = NaivePlanned(plain, plan, answers)
                    for moment in naive.moments:
                        most[moment.point] = max(most[moment.point], len(moment.in_use))
                for point, many in enumerate(told):
                    if many is not None:
                        self.assertLessEqual(most[point], many, (plain.lines, plan, point))
                        if len(plain.lines) <= 6:
                            self.assertEqual(most[point], many, (plain.lines, plan, point))

    def test_answers_with_so_many(self):
        for plain in SMALL + MIDDLE:
            program = program_of(plain)
            for plan in some_plans(plain, 4, seed=5):
                most = greatest_use(program, plan)
                rows = (0, 1, 2, 5, 20) if most is None else range(most + 3)
                for many in rows:
                    note = (plain.lines, plan, many)
                    answers = answers_with(program, plan, many)
                    if most is not None and many > most:
                        self.assertIsNone(answers, note)
                        continue
                    self.assertIs(type(answers), tuple, note)
                    self.assertLessEqual({type(yes) for yes in answers}, {bool})
                    self.assertLessEqual(len(answers), 100 + 100 * many, note)
                    naive = NaivePlanned(plain, plan, answers)
                    self.assertGreaterEqual(max(naive.counts()), many, note)

    def test_plans_farther_in_use_no_more(self):
        chance = random.Random(6)
        for plain in SMALL:
            program = program_of(plain)
            least = least_plan(program)
            for plan in some_plans(plain, 8, seed=6):
                for inner in (mended(program, plan), plan, least):
                    if goes_no_farther_in(plain, plan, inner):
                        most, fewer = greatest_use(program, plan), greatest_use(program, inner)
                        if most is not None:
                            self.assertLessEqual(fewer, most, (plain.lines, plan, inner))
                if is_safe(program, plan):
                    answers = random_answers(chance, 12)
                    first = NaivePlanned(plain, least, answers).moments
                    second = NaivePlanned(plain, plan, answers).moments
                    for one, other in zip(first, second):
                        self.assertLessEqual(one.in_use, other.in_use)
                    told = use_of_run(program, least, answers)
                    for one, other in zip(told, use_of_run(program, plan, answers)):
                        self.assertLessEqual(one, other)


class Machines(unittest.TestCase):
    def check(self, plain, plan, answers, capacity):
        """Holds a machine against what it must tell, event by event; tells the last event."""
        machine = Machine(program_of(plain), plan, capacity)
        left = list(answers)
        event = None
        for right, memory, taken, words in story(plain, plan, answers, capacity):
            if event is not None and event[0] == "ask":
                event = machine.answer(left.pop(0))
            else:
                event = machine.go()
            note = (plain.lines, plan, answers, capacity)
            self.assertEqual(event, right, note)
            self.assertEqual(machine.memory(), memory, note)
            self.assertEqual(machine.taken(), taken, note)
            self.assertEqual({name: machine.word(name) for name in words}, words, note)
            state = {"print": "ready", "ask": "asked"}.get(event[0], "ended")
            self.assertEqual(machine.state(), state, note)
        return event

    def test_what_machines_tell(self):
        chance = random.Random(7)
        last = {"lack": 0, "ask": 0, "end": 0}
        for plain in SMALL + MIDDLE:
            program = program_of(plain)
            plans = [least_plan(program)]
            plans += [mended(program, plan) for plan in some_plans(plain, 3, seed=7)]
            for plan in plans:
                answers = random_answers(chance, 16)
                most = max(NaivePlanned(plain, plan, answers).counts())
                for capacity in (0, most - 1, most, most + 1, 64):
                    if 0 <= capacity <= 64:
                        event = self.check(plain, plan, answers, capacity)
                        self.assertIs(event[0] == "lack", capacity < most)
                        last[event[0]] += 1
        self.assertGreater(min(last.values()), 50)

    def test_as_many_addresses_are_enough_and_one_fewer_are_not(self):
        lacking = 0
        for plain in SMALL + MIDDLE:
            program = program_of(plain)
            for plan in [least_plan(program)] + [mended(program, p) for p in some_plans(plain, 3)]:
                most = greatest_use(program, plan)
                rows = (0, 1, 7, 64) if most is None else range(most + 2)
                for capacity in rows:
                    answers = lacking_answers(program, plan, capacity)
                    note = (plain.lines, plan, capacity)
                    if most is not None and capacity >= most:
                        self.assertIsNone(answers, note)
                        continue
                    self.assertIs(type(answers), tuple, note)
                    self.assertLessEqual(len(answers), 200 + 100 * capacity, note)
                    self.assertEqual(story(plain, plan, answers, capacity)[-1][0][0], "lack", note)
                    self.assertEqual(self.check(plain, plan, answers, capacity)[0], "lack", note)
                    lacking += 1
        self.assertGreater(lacking, 50)

    def test_new_cells_get_addresses_below_the_number_in_use(self):
        chance = random.Random(8)
        for plain in SMALL + MIDDLE:
            plan = least_plan(program_of(plain))
            machine = Machine(program_of(plain), plan, 64)
            answers = list(random_answers(chance, 16))
            counts = NaivePlanned(plain, plan, answers).counts()
            if max(counts) <= 64:
                event = machine.go()
                while event[0] != "end" and (event[0] == "print" or answers):
                    event = machine.go() if event[0] == "print" else machine.answer(answers.pop(0))
                    # The least free address is taken, so that no address beyond is ever touched.
                    self.assertLessEqual(max(machine.taken(), default=-1), max(counts) - 1)
                    self.assertEqual(set(machine.memory()[2 * max(counts):]) - {0}, set())


class Desks(unittest.TestCase):
    def test_desks_after_whatever_was_done(self):
        chance = random.Random(9)
        for plain in [plain for plain in SMALL if sites(plain)] + MIDDLE:
            program = program_of(plain)
            desk = Desk(program)
            rows, at = [(0,) * len(sites(plain))], 0
            for _ in range(25):
                rows, at = self.act(desk, program, chance, rows, at)
                self.assertEqual(desk.plan(), rows[at])
                self.assertEqual(desk.changes(), at)
                self.assertEqual(desk.unsafe_sites(), unsafe_sites(program, rows[at]))
            self.assertEqual(desk.greatest_use(), greatest_use(program, rows[at]))
            for limit in (0, 3):
                self.assertEqual(desk.fault(limit), find_fault(program, rows[at], limit))

    def act(self, desk, program, chance, rows, at):
        """Does something at a desk; rows has its plans, and the present one is that at the place."""
        plan, word = rows[at], chance.choice(("place", "place", "tighten", "mend", "undo", "redo"))
        site = chance.randrange(len(plan))
        if word == "undo" or word == "redo":
            then = at - 1 if word == "undo" else at + 1
            if not 0 <= then < len(rows):
                with self.assertRaises(NothingLeft):
                    getattr(desk, word)()
                return rows, at
            self.assertEqual(getattr(desk, word)(), rows[then])
            return rows, then
        if word == "place":
            scope = chance.choice(program.site_scopes[site])
            after = plan[:site] + (scope,) + plan[site + 1:]
            self.assertEqual(desk.place(site, scope), unsafe_sites(program, after))
        elif word == "tighten":
            scope = least_plan(program)[site]
            after = plan[:site] + (scope,) + plan[site + 1:]
            self.assertEqual(desk.tighten(site), scope)
        else:
            after = mended(program, plan)
            self.assertEqual(desk.mend(), unsafe_sites(program, plan))
            self.assertEqual(desk.unsafe_sites(), ())
        return rows[:at + 1] + [after], at + 1


if __name__ == "__main__":
    unittest.main()
