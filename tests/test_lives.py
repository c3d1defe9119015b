"""[D1] to [D3]: lows of cells, what plans release, fitting scopes and the plan of a run."""

import unittest

from scopefree.lives import cell_lives, plan_of_run, reads_of_run, released_reads
from scopefree.programs import Program

EXAMPLE = "{\n  a = [b, b]\n  c = a.head\n}\nd = a.tail"
LOOP = "while ? {\na = [b, b]\nc = a.head\n{\nc = d.tail\n}\nd = a\n}"
DEEP = "{\n{\n{\na = [b, b]\nc = a.head\n}\nc = a.head\n}\nc = a.head\n}\nc = a.head"


class ExampleOfTheDocument(unittest.TestCase):
    def test_example(self):
        program = Program(EXAMPLE)
        self.assertEqual(reads_of_run(program, ()), ((0, 0, 2, 1), (0, 0, 4, 0)))
        self.assertEqual(cell_lives(program, ()), ((0, 1, 4, 0),))
        self.assertEqual(plan_of_run(program, ()), (0,))
        self.assertEqual(released_reads(program, (), (1,)), ((0, 0, 4, 0),))


class ReadsOfRun(unittest.TestCase):
    def reads(self, text, answers=()):
        return reads_of_run(Program(text), answers)

    def test_no_reads(self):
        self.assertEqual(self.reads(""), ())
        self.assertEqual(self.reads("a = [b, b]\nprint a\nb = a\nc = [a, a]"), ())
        self.assertEqual(self.reads("a = 1\nb = a.head\nc = d.tail"), ())
        self.assertEqual(self.reads(LOOP), ())
        self.assertEqual(cell_lives(Program(""), ()), ())
        self.assertEqual(plan_of_run(Program(""), ()), ())
        self.assertEqual(released_reads(Program(""), (), ()), ())

    def test_in_order(self):
        text = "a = [b, b]\nb = [a, a]\nc = b.head\nd = a.head\nc = c.tail\nd = b.tail"
        told = ((1, 1, 2, 0), (0, 0, 3, 0), (0, 0, 4, 0), (1, 1, 5, 0))
        self.assertEqual(self.reads(text), told)

    def test_the_low_falls_where_a_scope_is_left(self):
        told = ((0, 0, 4, 3), (0, 0, 6, 2), (0, 0, 8, 1), (0, 0, 10, 0))
        self.assertEqual(self.reads(DEEP), told)

    def test_the_low_does_not_rise_again(self):
        text = "{\n{\na = [b, b]\n}\n{\nc = a.head\n{\nc = a.head\n}\n}\n}"
        self.assertEqual(self.reads(text), ((0, 0, 5, 1), (0, 0, 7, 1)))

    def test_the_low_is_no_greater_than_the_depth_where_the_cell_is_made(self):
        text = "a = [b, b]\n{\nc = a.head\n{\na = [b, b]\nc = a.tail\n}\n}"
        self.assertEqual(self.reads(text), ((0, 0, 2, 0), (1, 1, 5, 2)))

    def test_each_cell_has_a_low_of_its_own(self):
        row = (True, True, True)
        told = ((0, 0, 2, 1), (1, 0, 2, 1), (0, 0, 4, 0), (2, 0, 2, 1), (1, 0, 4, 0))
        self.assertEqual(self.reads(LOOP, row), told)

    def test_a_site_is_no_line_and_a_cell_is_no_site(self):
        text = "b = 1\nwhile ? {\nb = 2\na = [b, b]\n}\nc = [a, b]\nc = c.head\nc = c.head"
        told = ((2, 1, 6, 0), (1, 0, 7, 0))
        self.assertEqual(self.reads(text, (True, True, False)), told)

    def test_a_question_that_is_answered_by_no_does_not_leave_its_place(self):
        text = "{\na = [b, b]\nwhile ? {\n}\nc = a.head\n}"
        self.assertEqual(self.reads(text, (False,)), ((0, 0, 4, 1),))
        self.assertEqual(self.reads(text, (True, False)), ((0, 0, 4, 1),))

    def test_both_parts_of_a_branch(self):
        text = "while ? {\nif ? {\na = [b, b]\nc = a.head\n} else {\nc = a.tail\n}\nc = a.head\n}"
        row = (True, True, True, False)
        told = ((0, 0, 3, 2), (0, 0, 7, 1), (0, 0, 5, 0), (0, 0, 7, 0))
        self.assertEqual(self.reads(text, row), told)

    def test_a_list_may_stand_for_a_tuple(self):
        program = Program(LOOP)
        row = [True, True]
        for call in (reads_of_run, cell_lives, plan_of_run):
            self.assertEqual(call(program, row), call(program, tuple(row)))
        plan = [1]
        told = released_reads(program, row, plan)
        self.assertEqual(told, released_reads(program, tuple(row), (1,)))
        self.assertEqual((row, plan), ([True, True], [1]))

    def test_answers_left_over_are_not_used(self):
        program = Program(EXAMPLE)
        for call in (reads_of_run, cell_lives, plan_of_run):
            self.assertEqual(call(program, (True, False)), call(program, ()))
        told = released_reads(program, (True, False), (1,))
        self.assertEqual(told, released_reads(program, (), (1,)))


class CellLives(unittest.TestCase):
    def lives(self, text, answers=()):
        return cell_lives(Program(text), answers)

    def test_steps_are_numbered_from_0(self):
        self.assertEqual(self.lives("a = [b, b]\nc = a.head"), ((0, 0, 1, 0),))

    def test_never_read(self):
        self.assertEqual(self.lives("a = [b, b]"), ((0, 0, None, 0),))
        self.assertEqual(self.lives("{\n{\na = [b, b]\n}\n}\nprint a"), ((0, 2, None, 2),))

    def test_the_last_read_counts(self):
        self.assertEqual(self.lives(DEEP), ((0, 3, 10, 0),))
        text = "{\na = [b, b]\n{\na = [b, b]\nc = a.tail\nc = a.head\n}\n}"
        self.assertEqual(self.lives(text), ((0, 1, None, 1), (1, 3, 5, 2)))

    def test_the_innermost_scope_that_fits(self):
        rows = DEEP.split("\n")
        depths = []
        for last in (4, 6, 8, 10):
            text = "\n".join(row for at, row in enumerate(rows) if at == last or "head" not in row)
            depths.append(self.lives(text)[0][3])
        self.assertEqual(depths, [3, 2, 1, 0])

    def test_scopes_are_told_by_number_not_by_depth(self):
        text = "{\n}\n{\n{\n}\n{\na = [b, b]\n}\nc = a.head\n}"
        self.assertEqual(self.lives(text), ((0, 6, 8, 2),))
        self.assertEqual(self.lives(text.replace("c = a.head\n", "")), ((0, 6, None, 4),))

    def test_cells_of_one_site_differ(self):
        told = ((0, 1, 12, 0), (0, 9, 10, 1))
        self.assertEqual(self.lives(LOOP, (True, True)), told)
        self.assertEqual(plan_of_run(Program(LOOP), (True, True)), (0,))

    def test_steps_go_on_through_loops(self):
        text = "while ? {\na = [b, a]\n}\nc = a.head\na = a.tail\na = a.head"
        told = ((0, 1, 9, 0), (0, 4, 8, 0))
        self.assertEqual(self.lives(text, (True, True, False)), told)


class Plans(unittest.TestCase):
    def test_the_plan_of_a_run(self):
        text = "{\na = [b, b]\n{\nb = [a, a]\nc = b.head\n}\nc = a.head\n}\nprint b"
        self.assertEqual(plan_of_run(Program(text), ()), (1, 2))
        self.assertEqual(plan_of_run(Program(text + "\nc = b.tail"), ()), (1, 0))
        self.assertEqual(plan_of_run(Program(text + "\nc = b.tail\nc = c.tail"), ()), (0, 0))

    def test_sites_without_cells_or_reads_have_the_innermost_scope(self):
        text = "if ? {\na = [b, b]\n} else {\n{\nb = [a, a]\n}\n}\nc = a.head"
        program = Program(text)
        self.assertEqual(plan_of_run(program, ()), (1, 3))
        self.assertEqual(plan_of_run(program, (True,)), (0, 3))
        self.assertEqual(plan_of_run(program, (False,)), (1, 3))

    def test_the_least_low_of_all_cells_counts(self):
        # The first cell is read with the low 0, the second one with the low 1.
        text = "while ? {\na = [b, b]\nc = d.head\nd = a\nc = d.head\n}"
        program = Program(text)
        self.assertEqual(plan_of_run(program, (True,)), (1,))
        self.assertEqual(plan_of_run(program, (True, True)), (0,))

    def test_a_site_is_no_cell(self):
        # Three cells of the first site ahead of the only one of the second site.
        text = "while ? {\na = [x, x]\n}\n{\nb = [x, x]\n}\nc = b.head"
        program = Program(text)
        row = (True, True, True, False)
        self.assertEqual(reads_of_run(program, row), ((3, 1, 6, 0),))
        self.assertEqual(plan_of_run(program, row), (1, 0))
        self.assertEqual(released_reads(program, row, (0, 2)), ((3, 1, 6, 0),))
        self.assertEqual(released_reads(program, row, (1, 0)), ())

    def test_what_a_plan_releases(self):
        program = Program(DEEP)
        reads = reads_of_run(program, ())
        self.assertEqual(released_reads(program, (), (0,)), ())
        self.assertEqual(released_reads(program, (), (1,)), reads[3:])
        self.assertEqual(released_reads(program, (), (2,)), reads[2:])
        self.assertEqual(released_reads(program, (), (3,)), reads[1:])

    def test_a_plan_gives_each_site_a_scope_of_its_own(self):
        text = "{\na = [b, b]\n{\nb = [b, b]\n}\n}\nc = b.head\nc = a.head"
        program = Program(text)
        first, second = (1, 1, 6, 0), (0, 0, 7, 0)
        self.assertEqual(reads_of_run(program, ()), (first, second))
        self.assertEqual(released_reads(program, (), (0, 0)), ())
        self.assertEqual(released_reads(program, (), (1, 0)), (second,))
        self.assertEqual(released_reads(program, (), (0, 1)), (first,))
        self.assertEqual(released_reads(program, (), (0, 2)), (first,))
        self.assertEqual(released_reads(program, (), (1, 2)), (first, second))

    def test_scopes_are_told_by_number_not_by_depth(self):
        text = "{\n}\n{\n}\n{\na = [b, b]\nc = a.head\n}\nc = a.head"
        program = Program(text)
        self.assertEqual(plan_of_run(program, ()), (0,))
        self.assertEqual(released_reads(program, (), (3,)), ((0, 0, 8, 0),))
        self.assertEqual(plan_of_run(Program(text[:-11]), ()), (3,))
        self.assertEqual(released_reads(Program(text[:-11]), (), (3,)), ())


if __name__ == "__main__":
    unittest.main()
