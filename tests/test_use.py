"""[G1] to [G4] and the interface's scopefree/use.py."""

import unittest

from scopefree.plans import BadPlan, least_plan
from scopefree.programs import Program
from scopefree.runs import visited_points
from scopefree.use import answers_with, greatest_use, greatest_uses, growing_sites, use_of_run

EXAMPLE = "a = [b, b]\nif ? {\nc = [a, a]\nd = [c, c]\n} else {\ne = [a, a]\n}\nf = [a, a]"
PLAN = (0, 1, 1, 2, 0)
LOOP = "while ? {\na = [b, b]\n}"
# The sites 0 and 1 lie in the scopes (2, 1, 0), of which 1 and 2 are bodies of loops.
LOOPS = "while ? {\nwhile ? {\na = [x, x]\nb = [x, x]\n}\nprint a\n}\nprint b"
# The scope 2 is the body of a loop in the block 1.
BLOCK = "print x\n{\nprint x\nwhile ? {\na = [x, x]\n}\nprint x\n}\nb = [x, x]\nprint x"
NO = False


def uses(text, plan, answers=()):
    return use_of_run(Program(text), plan, answers)


def greatest(text, plan):
    program = Program(text)
    return greatest_use(program, plan), greatest_uses(program, plan), growing_sites(program, plan)


class ExampleOfTheDocument(unittest.TestCase):
    def test_example(self):
        self.assertEqual(uses(EXAMPLE, PLAN, (True,)), (0, 1, 1, 2, 3, 1, 2))
        self.assertEqual(uses(EXAMPLE, PLAN, (False,)), (0, 1, 1, 2, 1, 2))
        told = greatest(EXAMPLE, PLAN)
        self.assertEqual(told, (3, (0, 1, 1, 2, 3, 1, 2, 1, 2), ()))
        self.assertEqual(greatest_use(Program(EXAMPLE), (0, 0, 0, 0, 0)), 4)

    def test_loop(self):
        self.assertEqual(greatest(LOOP, (1,)), (1, (0, 0, 1, 0), ()))
        self.assertEqual(greatest(LOOP, (0,)), (None, (None,) * 4, (0,)))


class UseOfRun(unittest.TestCase):
    def test_no_lines_and_no_sites(self):
        self.assertEqual(uses("", ()), (0,))
        self.assertEqual(uses("", (), (True, False)), (0,))
        self.assertEqual(uses("a = 1\nprint a", ()), (0, 0, 0))
        self.assertEqual(uses("while ? {\nprint a\n}", (), (True,)), (0, 0, 0, 0))

    def test_a_question_without_an_answer(self):
        self.assertEqual(uses(LOOP, (1,)), (0,))
        self.assertEqual(uses(EXAMPLE, PLAN), (0, 1))

    def test_answers_left_over_are_not_used(self):
        row = (True, False, False, True)
        self.assertEqual(uses(EXAMPLE, PLAN, row), uses(EXAMPLE, PLAN, (True,)))

    def test_the_scope_0_releases_nothing(self):
        row = (True, True, True, False)
        self.assertEqual(uses(LOOP, (0,), row), (0, 0, 1, 1, 1, 2, 2, 2, 3, 3, 3))
        self.assertEqual(uses("{\na = [b, b]\n}\na = 1\nprint a", (0,)), (0, 0, 1, 1, 1, 1))

    def test_a_body_releases_at_the_end_of_each_round(self):
        row = (True, True, False)
        self.assertEqual(uses(LOOP, (1,), row), (0, 0, 1, 0, 0, 1, 0, 0))

    def test_scopes_within_one_another(self):
        text = "{\n{\n{\na = [x, x]\nb = [x, x]\nc = [x, x]\nd = [x, x]\n}\n}\n}"
        told = uses(text, (0, 1, 2, 3))
        self.assertEqual(told, (0, 0, 0, 0, 1, 2, 3, 4, 3, 2, 1))
        self.assertEqual(uses(text, (3, 3, 1, 1)), (0, 0, 0, 0, 1, 2, 3, 4, 2, 2, 0))
        self.assertEqual(uses(text, [2, 2, 2, 0]), (0, 0, 0, 0, 1, 2, 3, 4, 4, 1, 1))

    def test_a_scope_releases_only_its_own_cells(self):
        # What the block ahead released must not come again, nor what the loop outside keeps go.
        text = "while ? {\na = [x, x]\n{\nb = [x, x]\n}\n{\nc = [x, x]\n}\n}"
        row = (True, True)
        told = uses(text, (1, 2, 3), row)
        self.assertEqual(told, (0, 0, 1, 1, 2, 1, 1, 2, 1, 0, 0, 1, 1, 2, 1, 1, 2, 1, 0))
        told = uses(text, (0, 1, 3), row)
        self.assertEqual(told, (0, 0, 1, 1, 2, 2, 2, 3, 2, 1, 1, 2, 2, 3, 3, 3, 4, 3, 2))

    def test_both_parts_of_a_branch(self):
        text = "while ? {\nif ? {\na = [x, x]\n} else {\nb = [x, x]\n}\n}"
        row = (True, True, True, False)
        self.assertEqual(uses(text, (2, 3), row), (0, 0, 0, 1, 0, 0, 0, 0, 1, 0, 0))
        self.assertEqual(uses(text, (1, 3), row), (0, 0, 0, 1, 1, 0, 0, 0, 1, 0, 0))
        self.assertEqual(uses(text, (2, 0), row), (0, 0, 0, 1, 0, 0, 0, 0, 1, 1, 1))

    def test_an_answer_no_leaves_no_scope(self):
        text = "{\na = [x, x]\nwhile ? {\n}\nprint a\n}\nprint a"
        self.assertEqual(uses(text, (1,), (False,)), (0, 0, 1, 1, 1, 0, 0))
        self.assertEqual(uses(text, (1,), (True, False)), (0, 0, 1, 1, 1, 1, 1, 0, 0))

    def test_a_plan_that_is_not_safe(self):
        text = "{\na = [x, x]\n}\nb = a.head\nb = [a, a]"
        self.assertEqual(uses(text, (1, 0)), (0, 0, 1, 0, 0, 1))
        self.assertEqual(greatest(text, (1, 0)), (1, (0, 0, 1, 0, 0, 1), ()))

    def test_cells_that_are_not_reachable_stay_in_use(self):
        self.assertEqual(uses("a = [x, x]\na = 1\na = [x, x]\na = 1", (0, 0)), (0, 1, 1, 2, 2))

    def test_there_is_one_for_the_beginning_and_each_step(self):
        program = Program(EXAMPLE)
        for row in ((), (True,), (False,)):
            points = visited_points(program, row)
            self.assertEqual(len(use_of_run(program, PLAN, row)), len(points))

    def test_lists_may_stand_for_tuples(self):
        program = Program(EXAMPLE)
        plan, row = list(PLAN), [True]
        self.assertEqual(use_of_run(program, plan, row), (0, 1, 1, 2, 3, 1, 2))
        self.assertEqual((plan, row), (list(PLAN), [True]))


class GrowingSites(unittest.TestCase):
    def test_loops_in_the_planned_scope(self):
        rows = (
            ((2, 2), ()), ((1, 2), (0,)), ((2, 1), (1,)), ((1, 1), (0, 1)), ((0, 2), (0,)),
            ((0, 0), (0, 1)), ((2, 0), (1,)),
        )
        for plan, sites in rows:
            self.assertEqual(growing_sites(Program(LOOPS), plan), sites)
            self.assertEqual(growing_sites(Program(LOOPS), list(plan)), sites)
            self.assertIs(greatest_use(Program(LOOPS), plan) is None, sites != ())

    def test_a_body_does_not_contain_its_loop(self):
        self.assertEqual(growing_sites(Program(LOOP), (1,)), ())
        text = "while ? {\n{\na = [b, b]\n}\n}"
        told = [growing_sites(Program(text), (scope,)) for scope in (0, 1, 2)]
        self.assertEqual(told, [(0,), (), ()])

    def test_only_loops_around_the_site_count(self):
        text = "{\nwhile ? {\n}\na = [b, b]\nwhile ? {\n}\n}"
        for scope in (0, 1):
            self.assertEqual(growing_sites(Program(text), (scope,)), ())
            self.assertEqual(greatest_use(Program(text), (scope,)), 1)

    def test_blocks_and_branches_are_no_loops(self):
        text = "{\nif ? {\na = [b, b]\n} else {\na = [b, b]\n}\n}"
        program = Program(text)
        for first in (0, 1, 2):
            for second in (0, 1, 3):
                self.assertEqual(growing_sites(program, (first, second)), ())
        self.assertEqual(greatest_use(program, (0, 0)), 1)

    def test_a_loop_between(self):
        told = [growing_sites(Program(BLOCK), (scope, 0)) for scope in (0, 1, 2)]
        self.assertEqual(told, [(0,), (0,), ()])

    def test_no_sites(self):
        for text in ("", "while ? {\n}"):
            self.assertEqual(growing_sites(Program(text), ()), ())


class GreatestUses(unittest.TestCase):
    def test_no_lines_and_no_sites(self):
        self.assertEqual(greatest("", ()), (0, (0,), ()))
        self.assertEqual(greatest("while ? {\nprint a\n}", ()), (0, (0, 0, 0, 0), ()))
        self.assertEqual(greatest("{\n}", []), (0, (0, 0, 0), ()))

    def test_in_a_row(self):
        self.assertEqual(greatest("a = [b, b]\n" * 5, (0,) * 5), (5, (0, 1, 2, 3, 4, 5), ()))

    def test_the_outermost_and_the_innermost_plan(self):
        text = "{\na = [x, x]\n}\n{\nb = [x, x]\n{\nc = [x, x]\n}\n}\nd = [x, x]"
        self.assertEqual(greatest(text, (0, 0, 0, 0))[:2], (4, (0, 0, 1, 1, 1, 2, 2, 3, 3, 3, 4)))
        self.assertEqual(greatest(text, (1, 2, 3, 0))[:2], (2, (0, 0, 1, 0, 0, 1, 1, 2, 1, 0, 1)))
        self.assertEqual(greatest(text, (1, 2, 2, 0))[:2], (2, (0, 0, 1, 0, 0, 1, 1, 2, 2, 0, 1)))

    def test_the_greater_part_of_a_branch_counts(self):
        text = "if ? {\na = [x, x]\n} else {\nb = [x, x]\nb = [x, x]\n}\nprint a"
        self.assertEqual(greatest(text, (0, 0, 0))[:2], (2, (0, 0, 1, 0, 1, 2, 2, 2)))
        self.assertEqual(greatest(text, (0, 2, 2))[:2], (2, (0, 0, 1, 0, 1, 2, 1, 1)))
        self.assertEqual(greatest(text, (1, 2, 0))[:2], (2, (0, 0, 1, 0, 1, 2, 1, 1)))
        self.assertEqual(greatest(text, (1, 2, 2))[:2], (2, (0, 0, 1, 0, 1, 2, 0, 0)))

    def test_the_way_to_the_most_is_not_always_that_of_the_most_so_far(self):
        # The first part has more cells than the second, but these last.
        text = "if ? {\na = [x, x]\na = [x, x]\na = [x, x]\n} else {\nb = [x, x]\n}\nc = [x, x]"
        told = greatest(text, (1, 1, 1, 0, 0))
        self.assertEqual(told, (3, (0, 0, 1, 2, 3, 0, 1, 1, 2), ()))

    def test_a_loop_that_may_be_left_out(self):
        text = "while ? {\na = [x, x]\n{\nb = [x, x]\n}\n}\nc = [x, x]"
        self.assertEqual(greatest(text, (1, 2, 0)), (2, (0, 0, 1, 1, 2, 1, 0, 1), ()))
        self.assertEqual(greatest(text, (1, 1, 0)), (2, (0, 0, 1, 1, 2, 2, 0, 1), ()))

    def test_none_at_some_points_only(self):
        # Within the block 1, from the question on; ahead of it and behind the block there is one.
        none = None
        told = greatest(BLOCK, (1, 0))
        self.assertEqual(told, (none, (0, 0, 0, none, none, none, none, none, 0, 1, 1), (0,)))
        told = greatest(BLOCK, (0, 0))
        self.assertEqual(told, (none, (0, 0, 0) + (none,) * 8, (0,)))
        self.assertEqual(greatest(BLOCK, (2, 0))[:2], (1, (0, 0, 0, 0, 0, 1, 0, 0, 0, 1, 1)))

    def test_none_from_the_question_of_the_outermost_loop_on(self):
        none = None
        told = greatest("b = [x, x]\n" + LOOPS, (0, 1, 2))
        self.assertEqual(told[1], (0, 1, none, none, none, none, none, none, 1, 1))
        told = greatest("b = [x, x]\n" + LOOPS, (0, 0, 2))
        self.assertEqual(told[1], (0,) + (none,) * 9)

    def test_a_scope_that_is_begun_again_has_none_of_its_cells(self):
        # Each round of the outer loop begins anew; ahead of the inner one there is a greatest use.
        text = "while ? {\nb = [x, x]\nwhile ? {\na = [x, x]\n}\nprint a\n}"
        none = None
        self.assertEqual(greatest(text, (1, 1))[1], (0, 0, none, none, none, none, none, 0))
        self.assertEqual(greatest(text, (1, 2))[1], (0, 0, 1, 1, 2, 1, 1, 0))

    def test_no_question_is_passed_by_another_part_of_a_branch(self):
        text = "if ? {\nwhile ? {\na = [x, x]\n}\n} else {\nb = [x, x]\n}\nprint a"
        none = None
        told = greatest(text, (0, 0))
        self.assertEqual(told[1], (0, none, none, none, none, 0, 1, none, none))
        told = greatest(text, (1, 3))
        self.assertEqual(told[1], (0, none, none, none, none, 0, 1, 0, 0))

    def test_cells_of_several_scopes_together(self):
        text = "{\na = [x, x]\n{\nb = [x, x]\nwhile ? {\nc = [x, x]\n{\nd = [x, x]\n}\n}\n}\n}"
        told = greatest(text, (1, 2, 3, 4))
        self.assertEqual(told, (4, (0, 0, 1, 1, 2, 2, 3, 3, 4, 3, 2, 1, 0), ()))
        told = greatest(text, (0, 1, 3, 3))
        self.assertEqual(told, (4, (0, 0, 1, 1, 2, 2, 3, 3, 4, 4, 2, 2, 1), ()))

    def test_lists_may_stand_for_tuples(self):
        plan = list(PLAN)
        self.assertEqual(greatest(EXAMPLE, plan), greatest(EXAMPLE, PLAN))
        self.assertEqual(plan, list(PLAN))


class AnswersWith(unittest.TestCase):
    def check(self, text, plan, many):
        program = Program(text)
        answers = answers_with(program, plan, many)
        self.assertIs(type(answers), tuple)
        self.assertLessEqual({type(yes) for yes in answers}, {bool})
        self.assertLessEqual(len(answers), 100 + 100 * many)
        self.assertGreaterEqual(max(use_of_run(program, plan, answers)), many)

    def test_up_to_the_greatest_use(self):
        rows = (
            ("", ()), ("print a", ()), ("a = [b, b]", (0,)), (EXAMPLE, PLAN), (LOOP, (1,)),
            (EXAMPLE, (0, 0, 0, 0, 0)), (LOOPS, (2, 2)), (BLOCK, (2, 0)),
            ("a = [b, b]\n" * 9, (0,) * 9),
        )
        for text, plan in rows:
            most = greatest_use(Program(text), plan)
            for many in range(most + 1):
                self.check(text, plan, many)
                self.check(text, list(plan), many)
            for many in (most + 1, most + 2, most + 100):
                self.assertIsNone(answers_with(Program(text), plan, many))

    def test_none_at_all(self):
        for text, plan in (("", ()), (EXAMPLE, PLAN), (LOOP, (0,)), (LOOP, (1,))):
            self.check(text, plan, 0)

    def test_without_a_greatest_use(self):
        rows = ((LOOP, (0,)), (LOOPS, (0, 2)), (LOOPS, (2, 1)), (LOOPS, (1, 0)), (BLOCK, (1, 0)))
        for text, plan in rows:
            for many in (0, 1, 2, 3, 10, 65, 71, 300):
                self.check(text, plan, many)

    def test_the_part_with_the_most(self):
        text = "if ? {\na = [x, x]\n} else {\nif ? {\n} else {\nb = [x, x]\nb = [x, x]\n}\n}"
        self.assertEqual(answers_with(Program(text), (0, 0, 0), 2)[:2], (NO, NO))
        self.check(text, (1, 4, 4), 2)
        self.assertIsNone(answers_with(Program(text), (0, 0, 0), 3))

    def test_a_scope_must_stay_open(self):
        # The two cells are in use at once only within one round.
        text = "while ? {\nif ? {\na = [x, x]\n} else {\n}\nif ? {\nb = [x, x]\n} else {\n}\n}"
        self.check(text, (1, 1), 2)
        self.assertIsNone(answers_with(Program(text), (1, 1), 3))
        self.assertIsNone(answers_with(Program(text), (2, 1), 2))
        self.check(text, (0, 1), 5)

    def test_the_site_that_grows_may_be_late(self):
        text = "while ? {\na = [x, x]\n}\n" * 5 + "{\nwhile ? {\nb = [x, x]\n}\n}"
        plan = (1, 2, 3, 4, 5, 6)
        self.assertEqual(growing_sites(Program(text), plan), (5,))
        for many in (1, 2, 40):
            self.check(text, plan, many)


class WrongInputs(unittest.TestCase):
    CALLS = (
        lambda program, plan: use_of_run(program, plan, (True,)), greatest_use, greatest_uses,
        growing_sites, lambda program, plan: answers_with(program, plan, 0),
        lambda program, plan: answers_with(program, plan, 5),
    )

    def test_no_plans(self):
        rows = (
            ((), None), ((0, 1, 1, 2), None), ((0, 1, 1, 2, 0, 0), None), ((9, 9), None),
            ((1, 1, 1, 2, 0), 0), ((-1, 3, 1, 2, 0), 0), ((0, 2, 1, 2, 0), 1), ((0, 1, 2, 2, 9), 2),
            ((0, 1, 1, 1, 0), 3), ((0, 1, 1, 2, 3), 4), ([0, 1, 1, 2, 1], 4),
        )
        program = Program(EXAMPLE)
        ahead = dict(vars(program))
        for call in self.CALLS:
            for plan, site in rows:
                with self.assertRaises(BadPlan) as caught:
                    call(program, plan)
                self.assertEqual(caught.exception.site, site)
            for text in ("", "while ? {\n}"):
                with self.assertRaises(BadPlan) as caught:
                    call(Program(text), (0,))
                self.assertIsNone(caught.exception.site)
        self.assertEqual(vars(program), ahead)
        self.assertEqual(rows[-1][0], [0, 1, 1, 2, 1])


class LeastPlans(unittest.TestCase):
    def test_the_least_plan_uses_no_more(self):
        text = "while ? {\na = [x, x]\n{\nb = [a, x]\n}\nc = a.head\nd = [x, x]\n}\nc = d.head"
        program = Program(text)
        least = least_plan(program)
        self.assertEqual(least, (1, 2, 0))
        self.assertIsNone(greatest_use(program, least))
        program = Program(text.replace("\nc = d.head", ""))
        self.assertEqual(least_plan(program), (1, 2, 1))
        told = [greatest_use(program, plan) for plan in ((1, 2, 1), (1, 1, 1), (1, 2, 0))]
        self.assertEqual(told, [2, 3, None])
        row = (True, True, False)
        pairs = zip(use_of_run(program, (1, 2, 1), row), use_of_run(program, (0, 1, 1), row))
        self.assertTrue(all(one <= other for one, other in pairs))


if __name__ == "__main__":
    unittest.main()
