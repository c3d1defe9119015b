"""[F1] to [F3] and the interface's scopefree/plans.py."""

import itertools
import unittest

from scopefree.errors import ScopeError
from scopefree.plans import (
    BadPlan, check_plan, find_fault, is_safe, least_plan, mended, safe_plan_count, unsafe_sites,
)
from scopefree.programs import Program

EXAMPLE = "while ? {\na = [b, b]\nb = a\n}\nc = b.head"
# The sites lie in the scopes (1, 0), (2, 1, 0), (4, 3, 0) and (0). At the end all cells but that of
# the third one are read; without the last line that of the first one is not.
NESTED = (
    "{\na = [x, x]\n{\nb = [a, x]\nc = b.head\n}\nc = a.tail\n}\n"
    "{\n{\nd = [x, x]\n}\nprint d\n}\ne = [a, b]\nc = e.tail\nc = c.head\nc = c.head"
)
EARLIER = NESTED[:-len("\nc = c.head")]
# The numbers of the scopes around the site, (5, 3, 0), are far from their depths.
FAR = "{\n}\n{\n}\n{\n{\n}\n{\na = [b, b]\n}\nc = a.head\n}"
DEEP = "{\n" * 5 + "a = [b, b]\n" + "}\n" * 3 + "c = a.head\n}\n}"
YES, NO = True, False


def bad_site(call, *arguments):
    """The attribute site of the BadPlan that a call raises."""
    try:
        call(*arguments)
    except BadPlan as error:
        assert isinstance(error, ScopeError)
        return error.site
    raise AssertionError("no BadPlan")


class ExampleOfTheDocument(unittest.TestCase):
    def test_example(self):
        program = Program(EXAMPLE)
        self.assertEqual(least_plan(program), (0,))
        self.assertEqual(unsafe_sites(program, (1,)), (0,))
        self.assertEqual(mended(program, (1,)), (0,))
        self.assertEqual(safe_plan_count(program), 1)
        self.assertEqual(find_fault(program, (1,), 4), (True, False))
        self.assertIsNone(find_fault(program, (1,), 1))


class CheckPlan(unittest.TestCase):
    CALLS = (
        check_plan, unsafe_sites, is_safe, mended, lambda program, plan: find_fault(program, plan, 0),
    )

    def test_plans(self):
        program = Program(NESTED)
        self.assertEqual(program.site_scopes, ((1, 0), (2, 1, 0), (4, 3, 0), (0,)))
        for plan in itertools.product((0, 1), (0, 1, 2), (0, 3, 4), (0,)):
            self.assertIsNone(check_plan(program, plan))
            self.assertIsNone(check_plan(program, list(plan)))

    def test_another_number_of_scopes(self):
        for call in self.CALLS:
            for plan in ((), (0,), (0, 0, 0), (0, 0, 0, 0, 0), (9,), (9, 9, 9, 9, 9), [1, 2, 4]):
                self.assertIsNone(bad_site(call, Program(NESTED), plan))
            for text in ("", "{\n}", "a = 1"):
                self.assertIsNone(bad_site(call, Program(text), (0,)))

    def test_the_first_wrong_site(self):
        rows = (
            ((9, 0, 0, 0), 0), ((-1, 0, 0, 0), 0), ((2, 9, 9, 9), 0), ((3, 0, 0, 1), 0),
            ((1, 3, 0, 0), 1), ((1, 4, 9, 0), 1), ((0, -2, 0, 0), 1), ((1, 2, 1, 0), 2),
            ((1, 2, 2, 1), 2), ((0, 0, 5, 0), 2), ((1, 2, 4, 1), 3), ((0, 0, 0, 4), 3),
            ((0, 0, 0, -1), 3), ((0, 0, 0, 1000), 3),
        )
        for call in self.CALLS:
            for plan, site in rows:
                self.assertEqual(bad_site(call, Program(NESTED), plan), site)
                self.assertEqual(bad_site(call, Program(NESTED), list(plan)), site)

    def test_a_scope_of_the_right_depth_that_is_not_around(self):
        for call in self.CALLS:
            self.assertEqual(bad_site(call, Program(FAR), (1,)), 0)
            self.assertEqual(bad_site(call, Program(FAR), (2,)), 0)
            self.assertEqual(bad_site(call, Program(FAR), (4,)), 0)

    def test_a_refused_call_changes_nothing(self):
        program = Program(NESTED)
        ahead = dict(vars(program))
        for call in self.CALLS:
            for plan in ([0, 0, 0], [1, 2, 4, 1]):
                given = list(plan)
                with self.assertRaises(BadPlan):
                    call(program, plan)
                self.assertEqual(plan, given)
        self.assertEqual(vars(program), ahead)
        self.assertEqual(least_plan(program), (0, 0, 4, 0))

    def test_no_sites(self):
        for text in ("", "{\n}", "while ? {\nc = a.head\n}"):
            program = Program(text)
            for plan in ((), []):
                self.assertIsNone(check_plan(program, plan))
                self.assertEqual(unsafe_sites(program, plan), ())
                self.assertIs(is_safe(program, plan), True)
                self.assertEqual(mended(program, plan), ())
                self.assertIsNone(find_fault(program, plan, 8))
            self.assertEqual(least_plan(program), ())
            self.assertEqual(safe_plan_count(program), 1)


class LeastPlan(unittest.TestCase):
    def least(self, text):
        return least_plan(Program(text))

    def test_never_read(self):
        self.assertEqual(self.least("a = [b, b]"), (0,))
        self.assertEqual(self.least("{\n{\na = [b, b]\n}\n}\nprint a\nb = a\nc = [a, b]"), (2, 0))

    def test_read_in_its_scope(self):
        self.assertEqual(self.least("{\n{\na = [b, b]\nc = a.head\n}\n}"), (2,))
        self.assertEqual(self.least("{\n{\na = [b, b]\n{\nc = a.head\n}\n}\n}"), (2,))

    def test_the_least_low_counts(self):
        for inner in range(6):
            text = "{\n" * 5 + "a = [b, b]\n" + "}\n" * (5 - inner) + "c = a.head\n" + "}\n" * inner
            self.assertEqual(self.least(text), (inner,))
        text = "{\n{\n{\na = [b, b]\nc = a.head\n}\nc = a.head\n}\nc = a.tail\n}"
        self.assertEqual(self.least(text), (1,))

    def test_scopes_are_told_by_number_not_by_depth(self):
        self.assertEqual(self.least(FAR), (3,))
        self.assertEqual(self.least(FAR.replace("c = a.head\n", "")), (5,))
        self.assertEqual(self.least(FAR + "\nc = a.head"), (0,))

    def test_each_site_has_its_own_scope(self):
        self.assertEqual(self.least(NESTED), (0, 0, 4, 0))
        self.assertEqual(self.least(EARLIER), (1, 0, 4, 0))
        self.assertEqual(self.least(EARLIER[:-len("\nc = c.head")]), (1, 2, 4, 0))

    def test_what_some_run_reads(self):
        text = "while ? {\n{\na = [b, b]\n}\nif ? {\na = 1\n} else {\n}\n}\n"
        self.assertEqual(self.least(text), (2,))
        self.assertEqual(self.least(text + "c = a.head"), (0,))
        self.assertEqual(self.least(text + "a = 1\nc = a.head"), (2,))
        text = "while ? {\nc = d.head\na = [b, b]\nd = a\n}"
        self.assertEqual(self.least(text), (0,))

    def test_reads_that_need_many_rounds(self):
        text = "while ? {\nx = e\ne = d\nd = c\nc = b\nb = a\na = [x, x]\nx = 0\n}\n"
        self.assertEqual(self.least(text), (1,))
        self.assertEqual(self.least(text + "c = e.tail"), (0,))


class UnsafeSites(unittest.TestCase):
    def test_no_farther_in_than_the_least_plan(self):
        program = Program(DEEP)
        self.assertEqual(least_plan(program), (2,))
        for scope in range(6):
            self.assertEqual(unsafe_sites(program, (scope,)), () if scope <= 2 else (0,))
            self.assertIs(is_safe(program, (scope,)), scope <= 2)
            self.assertEqual(mended(program, (scope,)), (min(scope, 2),))
        self.assertEqual(safe_plan_count(program), 3)

    def test_site_by_site(self):
        program = Program(NESTED)
        rows = (
            ((0, 0, 0, 0), ()), ((0, 0, 4, 0), ()), ((0, 0, 3, 0), ()), ((1, 0, 4, 0), (0,)),
            ((0, 1, 0, 0), (1,)), ((0, 2, 3, 0), (1,)), ((1, 2, 4, 0), (0, 1)),
            ((1, 1, 0, 0), (0, 1)),
        )
        for plan, sites in rows:
            for given in (plan, list(plan)):
                self.assertEqual(unsafe_sites(program, given), sites)
                self.assertIs(is_safe(program, given), sites == ())
                told = tuple(0 if site in sites else scope for site, scope in enumerate(plan))
                self.assertEqual(mended(program, given), told)

    def test_the_outermost_plan_is_safe(self):
        for text in (EXAMPLE, NESTED, FAR, DEEP):
            program = Program(text)
            plan = (0,) * len(program.sites)
            self.assertIs(is_safe(program, plan), True)
            self.assertEqual(mended(program, plan), plan)

    def test_the_innermost_plan(self):
        rows = ((EXAMPLE, (0,)), (NESTED, (0, 1)), (FAR, (0,)), (DEEP, (0,)), ("a = [b, b]", ()))
        for text, sites in rows:
            program = Program(text)
            plan = tuple(scopes[0] for scopes in program.site_scopes)
            self.assertEqual(unsafe_sites(program, plan), sites)
            self.assertEqual(mended(program, plan), least_plan(program))

    def test_the_least_plan_is_mended(self):
        for text in (EXAMPLE, NESTED, FAR, DEEP):
            program = Program(text)
            least = least_plan(program)
            self.assertEqual(mended(program, least), least)
            self.assertEqual(unsafe_sites(program, least), ())

    def test_mended_keeps_what_is_farther_out(self):
        text = "{\n{\na = [x, x]\n}\nc = a.head\n{\nb = [x, x]\n}\n}"
        program = Program(text)
        self.assertEqual(least_plan(program), (1, 3))
        self.assertEqual(mended(program, (2, 0)), (1, 0))
        self.assertEqual(mended(program, (0, 1)), (0, 1))
        self.assertEqual(mended(program, (2, 3)), (1, 3))
        self.assertEqual(mended(program, [2, 1]), (1, 1))

    def test_scopes_are_told_by_number_not_by_depth(self):
        # The scope 1 is around the first site, and 4, which is no deeper, around the second one.
        text = "{\na = [x, x]\n}\n{\n}\n{\n}\n{\nb = [x, x]\n}\nc = a.head"
        program = Program(text)
        self.assertEqual(least_plan(program), (0, 4))
        self.assertEqual(unsafe_sites(program, (1, 4)), (0,))
        self.assertEqual(unsafe_sites(program, (0, 4)), ())
        self.assertEqual(mended(program, (1, 4)), (0, 4))


class SafePlanCount(unittest.TestCase):
    def count(self, text):
        return safe_plan_count(Program(text))

    def test_one_site(self):
        for inner in range(6):
            text = "{\n" * 5 + "a = [b, b]\n" + "}\n" * (5 - inner) + "c = a.head\n" + "}\n" * inner
            self.assertEqual(self.count(text), inner + 1)

    def test_sites_are_chosen_each_for_itself(self):
        self.assertEqual(self.count(NESTED), 3)
        self.assertEqual(self.count(EARLIER), 2 * 3)
        self.assertEqual(self.count("{\na = [b, b]\nb = [a, a]\n{\nc = [a, b]\n}\n}"), 12)

    def test_many(self):
        text = "{\n" * 5 + "a = [b, b]\n" * 70 + "}\n" * 5
        self.assertEqual(self.count(text), 6 ** 70)


class FindFault(unittest.TestCase):
    def test_limits(self):
        text = "a = [b, b]\n" + "while ? {\n}\n" * 4 + "{\na = [b, b]\n}\nc = a.head"
        program = Program(text)
        for limit in range(9):
            right = (NO,) * 4 if limit >= 4 else None
            self.assertEqual(find_fault(program, (0, 5), limit), right)
            self.assertIsNone(find_fault(program, (0, 0), limit))

    def test_no_answers_needed(self):
        program = Program("{\na = [b, b]\n}\nc = a.head\nwhile ? {\n}")
        for limit in range(9):
            self.assertEqual(find_fault(program, (1,), limit), ())
            self.assertIsNone(find_fault(program, (0,), limit))

    def test_eight_answers_and_nine(self):
        text = "{\na = [b, b]\n}\n" + "if ? {\n} else {\na = 1\n}\n" * 7
        program = Program(text + "if ? {\n} else {\nc = a.head\n}")
        self.assertEqual(find_fault(program, (1,), 8), (YES,) * 7 + (NO,))
        self.assertIsNone(find_fault(program, (1,), 7))
        program = Program("{\na = [b, b]\n}\n" + "while ? {\n}\n" * 9 + "c = a.head")
        self.assertEqual(unsafe_sites(program, (1,)), (0,))
        self.assertIsNone(find_fault(program, (1,), 8))

    def test_fewer_come_first_then_yes(self):
        text = "{\na = [b, b]\n}\nif ? {\nif ? {\n} else {\n}\n} else {\n}\nc = a.head"
        self.assertEqual(find_fault(Program(text), (1,), 8), (NO,))
        text = "{\na = [b, b]\n}\nif ? {\na = 1\n} else {\n}\nif ? {\n} else {\n}\nc = a.head"
        self.assertEqual(find_fault(Program(text), (1,), 8), (NO, YES))
        text = "{\na = [b, b]\n}\nif ? {\n} else {\n}\nif ? {\na = 1\n} else {\n}\nc = a.head"
        self.assertEqual(find_fault(Program(text), (1,), 8), (YES, NO))

    def test_the_first_of_all_sites(self):
        text = (
            "{\na = [x, x]\nb = [x, x]\n}\nif ? {\nif ? {\nc = a.head\n} else {\n}\n} else {\n"
            "if ? {\n} else {\nc = b.head\n}\n}"
        )
        program = Program(text)
        self.assertEqual(unsafe_sites(program, (1, 1)), (0, 1))
        self.assertEqual(find_fault(program, (1, 1), 8), (YES, YES))
        self.assertEqual(find_fault(program, (1, 0), 8), (YES, YES))
        self.assertEqual(find_fault(program, (0, 1), 8), (NO, NO))
        self.assertIsNone(find_fault(program, (0, 1), 1))
        self.assertIsNone(find_fault(program, (0, 0), 8))

    def test_a_scope_farther_out_is_left_later(self):
        part = "if ? {\n} else {\nc = a.head\n}"
        text = "{\n{\na = [b, b]\n}\n" + part + "\n}\n" + part
        program = Program(text)
        self.assertEqual(find_fault(program, [2], 4), (NO,))
        self.assertEqual(find_fault(program, [1], 4), (YES, NO))
        self.assertIsNone(find_fault(program, [0], 4))

    def test_reads_of_what_is_not_released_do_not_count(self):
        text = "while ? {\na = [b, b]\nc = a.head\nd = e\ne = a\nc = d.head\n}"
        program = Program(text)
        self.assertEqual(find_fault(program, (1,), 4), (YES, YES))

    def test_answers_are_true_and_false(self):
        answers = find_fault(Program(EXAMPLE), [1], 8)
        self.assertIs(type(answers), tuple)
        self.assertEqual([type(yes) for yes in answers], [bool, bool])


if __name__ == "__main__":
    unittest.main()
