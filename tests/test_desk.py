"""[I1], [I2] and the interface's scopefree/desk.py."""

import unittest

from scopefree.desk import Desk, NothingLeft
from scopefree.errors import ScopeError
from scopefree.plans import find_fault, least_plan, unsafe_sites
from scopefree.programs import Program
from scopefree.reads import NoScope
from scopefree.scopes import NoSite
from scopefree.use import greatest_use

EXAMPLE = "x = [y, y]\nwhile ? {\na = [x, y]\nb = a.head\nc = b.tail\n}"
LATE = EXAMPLE + "\nd = a.tail"
# The scopes around the sites are (2, 1, 0), (3, 1, 0), (0); the least plan is (1, 0, 0).
THREE = "{\n{\na = [x, x]\n}\nc = a.head\n{\nb = [x, x]\n}\n}\nc = b.head\nd = [x, x]"


def shown(desk):
    """All that a desk tells."""
    told = (desk.plan(), desk.changes(), desk.unsafe_sites(), desk.fault(3), desk.greatest_use())
    return told


class ExampleOfTheDocument(unittest.TestCase):
    def test_example(self):
        desk = Desk(Program(EXAMPLE))
        self.assertEqual(desk.tighten(1), 1)
        self.assertEqual(desk.greatest_use(), 2)
        desk.place(0, 0)
        self.assertEqual(desk.greatest_use(), 2)
        desk.place(1, 0)
        self.assertIsNone(desk.greatest_use())

    def test_with_a_last_line(self):
        desk = Desk(Program(LATE))
        self.assertEqual(desk.place(1, 1), (1,))
        self.assertEqual(desk.fault(4), (True, False))
        self.assertEqual(desk.mend(), (1,))


class Beginning(unittest.TestCase):
    def test_each_site_has_the_scope_0(self):
        for text, many in ((EXAMPLE, 2), (THREE, 3), ("a = 1", 0), ("", 0)):
            desk = Desk(Program(text))
            self.assertEqual(desk.plan(), (0,) * many)
            self.assertEqual(desk.changes(), 0)
            self.assertEqual(desk.unsafe_sites(), ())
            self.assertIsNone(desk.fault(8))
        self.assertIsNone(Desk(Program(EXAMPLE)).greatest_use())
        self.assertEqual(Desk(Program(THREE)).greatest_use(), 3)
        self.assertEqual(Desk(Program("")).greatest_use(), 0)

    def test_desks_share_nothing(self):
        program = Program(THREE)
        ahead = dict(vars(program))
        first, second = Desk(program), Desk(program)
        first.place(0, 2)
        first.place(1, 1)
        first.undo()
        self.assertEqual((first.plan(), first.changes()), ((2, 0, 0), 1))
        self.assertEqual((second.plan(), second.changes()), ((0, 0, 0), 0))
        with self.assertRaises(NothingLeft):
            second.redo()
        self.assertEqual(vars(program), ahead)


class Changes(unittest.TestCase):
    def test_place(self):
        desk = Desk(Program(THREE))
        self.assertEqual(desk.place(1, 3), (1,))
        self.assertEqual(desk.plan(), (0, 3, 0))
        self.assertEqual(desk.place(0, 2), (0, 1))
        self.assertEqual(desk.plan(), (2, 3, 0))
        self.assertEqual(desk.place(0, 1), (1,))
        self.assertEqual(desk.place(1, 1), (1,))
        self.assertEqual(desk.place(1, 0), ())
        self.assertEqual((desk.plan(), desk.changes()), ((1, 0, 0), 5))

    def test_tighten(self):
        desk = Desk(Program(THREE))
        self.assertEqual([desk.tighten(site) for site in (0, 1, 2)], [1, 0, 0])
        self.assertEqual((desk.plan(), desk.changes()), ((1, 0, 0), 3))
        desk.place(0, 2)
        desk.place(1, 3)
        # It may also lead farther out, and leaves the other sites as they are.
        self.assertEqual(desk.tighten(1), 0)
        self.assertEqual((desk.plan(), desk.unsafe_sites()), ((2, 0, 0), (0,)))
        self.assertEqual(desk.tighten(0), 1)
        self.assertEqual((desk.plan(), desk.unsafe_sites()), ((1, 0, 0), ()))

    def test_scopes_are_told_by_number_not_by_depth(self):
        desk = Desk(Program("{\n}\n{\n}\n{\n{\na = [b, b]\n}\nc = a.head\n}"))
        self.assertEqual(desk.tighten(0), 3)
        self.assertEqual(desk.place(0, 4), (0,))
        self.assertEqual(desk.mend(), (0,))
        self.assertEqual(desk.plan(), (3,))

    def test_mend(self):
        desk = Desk(Program(THREE))
        desk.place(0, 2)
        desk.place(1, 3)
        self.assertEqual(desk.mend(), (0, 1))
        self.assertEqual((desk.plan(), desk.unsafe_sites(), desk.changes()), ((1, 0, 0), (), 3))
        # Safe sites keep what they have, even if the least plan is farther inside.
        desk.place(0, 0)
        desk.place(1, 1)
        self.assertEqual(desk.mend(), (1,))
        self.assertEqual((desk.plan(), desk.unsafe_sites()), ((0, 0, 0), ()))

    def test_changes_that_leave_the_plan_as_it_was(self):
        desk = Desk(Program(THREE))
        self.assertEqual(desk.place(0, 0), ())
        self.assertEqual(desk.tighten(1), 0)
        self.assertEqual(desk.mend(), ())
        self.assertEqual((desk.plan(), desk.changes()), ((0, 0, 0), 3))
        for left in (2, 1, 0):
            self.assertEqual(desk.undo(), (0, 0, 0))
            self.assertEqual(desk.changes(), left)
        for many in (1, 2, 3):
            self.assertEqual(desk.redo(), (0, 0, 0))
            self.assertEqual(desk.changes(), many)
        with self.assertRaises(NothingLeft):
            desk.redo()

    def test_they_take_away_what_could_be_done_again(self):
        calls = (
            lambda desk: desk.place(0, 1), lambda desk: desk.tighten(0), lambda desk: desk.mend(),
            lambda desk: desk.place(0, 0),
        )
        for call in calls:
            desk = Desk(Program(THREE))
            desk.place(1, 1)
            desk.place(1, 3)
            desk.undo()
            desk.undo()
            call(desk)
            ahead = shown(desk)
            with self.assertRaises(NothingLeft):
                desk.redo()
            self.assertEqual(shown(desk), ahead)
            self.assertEqual(desk.changes(), 1)
            self.assertEqual(desk.undo(), (0, 0, 0))

    def test_a_desk_without_sites(self):
        for text in ("", "while ? {\n}"):
            desk = Desk(Program(text))
            self.assertEqual(desk.mend(), ())
            self.assertEqual((desk.plan(), desk.changes()), ((), 1))
            self.assertEqual((desk.undo(), desk.redo()), ((), ()))
            self.assertEqual((desk.unsafe_sites(), desk.fault(8)), ((), None))
            self.assertEqual(desk.greatest_use(), 0)


class UndoAndRedo(unittest.TestCase):
    def test_back_and_forth(self):
        desk = Desk(Program(THREE))
        plans = [desk.plan()]
        for site, scope in ((0, 1), (1, 3), (0, 2), (1, 1)):
            desk.place(site, scope)
            plans.append(desk.plan())
        desk.mend()
        plans.append(desk.plan())
        self.assertEqual(plans[1:3], [(1, 0, 0), (1, 3, 0)])
        for at in (4, 3, 2, 1, 0):
            self.assertEqual(desk.undo(), plans[at])
            self.assertEqual((desk.plan(), desk.changes()), (plans[at], at))
        for at in (1, 2, 3, 4, 5):
            self.assertEqual(desk.redo(), plans[at])
            self.assertEqual((desk.plan(), desk.changes()), (plans[at], at))

    def test_undo_and_redo_are_no_changes(self):
        desk = Desk(Program(THREE))
        desk.place(0, 1)
        desk.place(0, 2)
        desk.undo()
        self.assertEqual(desk.changes(), 1)
        desk.undo()
        desk.redo()
        self.assertEqual(desk.changes(), 1)
        # A redo leaves what can be done again behind it.
        self.assertEqual(desk.redo(), (2, 0, 0))
        self.assertEqual(desk.changes(), 2)

    def test_undo_takes_back_tighten_and_mend(self):
        desk = Desk(Program(LATE))
        desk.place(1, 1)
        desk.mend()
        self.assertEqual((desk.plan(), desk.unsafe_sites()), ((0, 0), ()))
        self.assertEqual(desk.undo(), (0, 1))
        self.assertEqual(desk.unsafe_sites(), (1,))
        self.assertEqual(desk.tighten(1), 0)
        self.assertEqual(desk.undo(), (0, 1))

    def test_what_was_not_taken_back_last(self):
        desk = Desk(Program(THREE))
        desk.place(0, 1)
        desk.place(1, 1)
        desk.undo()
        desk.place(0, 2)
        self.assertEqual(desk.undo(), (1, 0, 0))
        self.assertEqual(desk.redo(), (2, 0, 0))
        self.assertEqual(desk.undo(), (1, 0, 0))
        self.assertEqual(desk.undo(), (0, 0, 0))
        self.assertEqual(desk.redo(), (1, 0, 0))

    def test_nothing_left(self):
        desk = Desk(Program(THREE))
        for call in (desk.undo, desk.redo):
            ahead = shown(desk)
            with self.assertRaises(NothingLeft):
                call()
            self.assertEqual(shown(desk), ahead)
        desk.place(0, 2)
        with self.assertRaises(NothingLeft):
            desk.redo()
        self.assertEqual((desk.plan(), desk.changes()), ((2, 0, 0), 1))
        desk.undo()
        with self.assertRaises(NothingLeft):
            desk.undo()
        # The refused undo has not taken away what can be done again.
        self.assertEqual(desk.redo(), (2, 0, 0))


class PresentPlan(unittest.TestCase):
    def test_what_is_told_is_about_the_present_plan(self):
        for text in (EXAMPLE, LATE):
            program = Program(text)
            desk = Desk(program)
            steps = (
                lambda: desk.place(1, 1), lambda: desk.undo(), lambda: desk.redo(),
                lambda: desk.mend(), lambda: desk.tighten(1), lambda: desk.tighten(0),
                lambda: desk.undo(), lambda: desk.place(1, 0), lambda: desk.undo(),
            )
            for step in steps:
                step()
                plan = desk.plan()
                self.assertEqual(desk.unsafe_sites(), unsafe_sites(program, plan))
                self.assertEqual(desk.greatest_use(), greatest_use(program, plan))
                for limit in range(9):
                    self.assertEqual(desk.fault(limit), find_fault(program, plan, limit))

    def test_limits_of_faults(self):
        desk = Desk(Program(LATE))
        desk.place(1, 1)
        told = [desk.fault(limit) for limit in range(9)]
        self.assertEqual(told, [None, None] + [(True, False)] * 7)
        desk.mend()
        self.assertEqual([desk.fault(limit) for limit in range(9)], [None] * 9)


class WrongInputs(unittest.TestCase):
    def desk(self):
        """A desk with something to undo and something to redo."""
        desk = Desk(Program(THREE))
        desk.place(0, 1)
        desk.place(1, 3)
        desk.place(0, 2)
        desk.undo()
        return desk

    def unchanged(self, desk):
        self.assertEqual(shown(desk), shown(self.desk()))
        self.assertEqual(desk.redo(), (2, 3, 0))
        self.assertEqual(desk.undo(), (1, 3, 0))

    def test_no_site(self):
        desk = self.desk()
        for site in (-1, 3, 4, 100, -3):
            with self.assertRaises(NoSite):
                desk.tighten(site)
            # It is told ahead of what is no scope.
            for scope in (0, 1, -1, 99):
                with self.assertRaises(NoSite):
                    desk.place(site, scope)
        self.unchanged(desk)
        for text in ("", "while ? {\n}"):
            desk = Desk(Program(text))
            for call, arguments in ((desk.place, (0, 0)), (desk.tighten, (0,))):
                with self.assertRaises(NoSite):
                    call(*arguments)
            self.assertEqual(desk.changes(), 0)

    def test_no_scope(self):
        desk = self.desk()
        for site, scopes in ((0, (3, 4, -1, 99)), (1, (2, 4, -1)), (2, (1, 2, 3, -1))):
            for scope in scopes:
                with self.assertRaises(NoScope):
                    desk.place(site, scope)
        self.unchanged(desk)

    def test_errors(self):
        self.assertTrue(issubclass(NothingLeft, ScopeError))
        self.assertIsNot(NothingLeft, ScopeError)

    def test_what_is_told_are_tuples(self):
        desk = self.desk()
        told = (
            desk.plan(), desk.place(0, 2), desk.mend(), desk.undo(), desk.redo(), desk.undo(),
            desk.unsafe_sites(), desk.fault(8),
        )
        for value in told:
            self.assertIs(type(value), tuple)
        self.assertEqual(least_plan(Program(THREE)), (1, 0, 0))


if __name__ == "__main__":
    unittest.main()
