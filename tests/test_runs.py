"""[C1] to [C4]: runs, what they print, their cells, and which of these are reachable."""

import unittest

from scopefree.programs import Program
from scopefree.runs import final_values, reachable_cells, run, visited_points

EXAMPLE = "while ? {\n  a = [a, b]\n  b = a.tail\n}\nprint a"
BRANCH = "if ? {\na = 1\n} else {\na = 2\n}\nprint a"


def cell(number):
    return ("cell", number)


class ExampleOfTheDocument(unittest.TestCase):
    def test_example(self):
        program = Program(EXAMPLE)
        told = (False, (), ((0, 0, 0), (0, cell(0), 0)))
        self.assertEqual(run(program, (True, True)), told)
        self.assertEqual(run(program, (True, False, True)), (True, ("pair",), ((0, 0, 0),)))
        self.assertEqual(visited_points(program, (True,)), (0, 1, 2, 3, 0))
        self.assertEqual(visited_points(program, (False,)), (0, 4, 5))
        self.assertEqual(reachable_cells(program, (True, True)), (0, 1))


class Answers(unittest.TestCase):
    def test_no_answers_needed(self):
        program = Program("a = 5\nprint a")
        self.assertEqual(run(program, ()), (True, (5,), ()))
        self.assertEqual(visited_points(program, ()), (0, 1, 2))

    def test_no_answers_given(self):
        self.assertEqual(run(Program(EXAMPLE), ()), (False, (), ()))
        self.assertEqual(visited_points(Program(EXAMPLE), ()), (0,))
        self.assertEqual(visited_points(Program("a = 1\n{\nwhile ? {\n}\n}"), ()), (0, 1, 2))

    def test_a_run_that_stops_at_a_question(self):
        program = Program("a = 1\nprint a\n" + BRANCH)
        self.assertEqual(run(program, ()), (False, (1,), ()))
        self.assertEqual(visited_points(program, ()), (0, 1, 2))
        self.assertEqual(final_values(program, ()), (("a", 1),))

    def test_a_question_ahead_of_the_end_is_no_end(self):
        program = Program("while ? {\n}")
        self.assertEqual(run(program, (True,)), (False, (), ()))
        self.assertEqual(run(program, (True, False)), (True, (), ()))

    def test_answers_left_over_are_not_used(self):
        program = Program(BRANCH)
        for more in ((), (True,), (False,), (False, True, False)):
            self.assertEqual(run(program, (True,) + more), (True, (1,), ()))
            self.assertEqual(run(program, (False,) + more), (True, (2,), ()))
            self.assertEqual(visited_points(program, (False,) + more), (0, 3, 4, 5, 6))
        self.assertEqual(run(Program(""), (True, False)), (True, (), ()))

    def test_yes_and_no(self):
        program = Program(BRANCH)
        self.assertEqual(visited_points(program, (True,)), (0, 1, 2, 5, 6))
        self.assertEqual(visited_points(program, (False,)), (0, 3, 4, 5, 6))
        program = Program("while ? {\nwhile ? {\n}\n}")
        row = (True, True, False, True, False, False)
        self.assertEqual(visited_points(program, row), (0, 1, 2, 1, 3, 0, 1, 3, 0, 4))

    def test_a_list_may_stand_for_a_tuple(self):
        program = Program(EXAMPLE)
        row = [True, False, True]
        for call in (run, visited_points, final_values, reachable_cells):
            self.assertEqual(call(program, row), call(program, tuple(row)))
        self.assertEqual(row, [True, False, True])

    def test_no_lines(self):
        program = Program(" \n")
        self.assertEqual(run(program, ()), (True, (), ()))
        self.assertEqual(visited_points(program, ()), (0,))
        self.assertEqual(final_values(program, ()), ())
        self.assertEqual(reachable_cells(program, ()), ())


class Steps(unittest.TestCase):
    def values(self, text, answers=()):
        return dict(final_values(Program(text), answers))

    def test_variables_begin_with_0(self):
        self.assertEqual(run(Program("print a"), ()), (True, (0,), ()))
        self.assertEqual(self.values("a = b"), {"a": 0, "b": 0})
        self.assertEqual(run(Program("a = [b, a]"), ())[2], ((0, 0, 0),))

    def test_values_are_those_at_the_step(self):
        text = "b = 1\na = b\nb = 2\nprint a\nprint b"
        self.assertEqual(run(Program(text), ())[1], (1, 2))

    def test_a_line_is_done_each_time(self):
        text = "while ? {\nb = [a, b]\na = 7\nprint a\n}"
        told = run(Program(text), (True, True))
        self.assertEqual(told, (False, (7, 7), ((0, 0, 0), (0, 7, cell(0)))))

    def test_the_first_and_second_part(self):
        text = "a = 1\nb = 2\nc = [a, b]\nd = c.head\ne = c.tail"
        told = {"a": 1, "b": 2, "c": cell(0), "d": 1, "e": 2}
        self.assertEqual(self.values(text), told)
        text = "a = [b, b]\nb = 3\nc = [a, b]\na = c.head\nb = c.tail"
        self.assertEqual(self.values(text), {"a": cell(0), "b": 3, "c": cell(1)})

    def test_parts_never_change(self):
        text = "a = 1\nb = [a, a]\na = 2\nc = b.head\nb = 5\nb = [b, b]\nd = b.tail"
        self.assertEqual(self.values(text), {"a": 2, "b": cell(1), "c": 1, "d": 5})

    def test_parts_of_a_number_are_this_number(self):
        text = "a = 9\nb = a.head\nc = a.tail\nd = e.head\na = a.head"
        self.assertEqual(self.values(text), {"a": 9, "b": 9, "c": 9, "d": 0, "e": 0})

    def test_a_variable_may_stand_on_both_sides(self):
        text = "a = 1\na = [a, a]\na = [a, a]\na = a\nb = a\na = a.head\nc = a\na = a.tail"
        self.assertEqual(self.values(text), {"a": 1, "b": cell(1), "c": cell(0)})

    def test_prints(self):
        text = "a = 0\nprint a\na = [b, b]\nprint a\nb = 999\nprint b\nprint a\na = b\nprint a"
        self.assertEqual(run(Program(text), ())[1], (0, "pair", 999, "pair", 999))

    def test_a_print_changes_no_variable(self):
        self.assertEqual(self.values("a = [b, b]\nprint a\nprint b"), {"a": cell(0), "b": 0})

    def test_cells_are_numbered_as_they_are_made(self):
        text = "while ? {\nif ? {\na = [b, b]\n} else {\nb = [a, a]\n}\n}"
        told = run(Program(text), (True, False, True, True, True, True))
        self.assertEqual(told[2], ((1, 0, 0), (0, cell(0), cell(0)), (0, cell(0), cell(0))))

    def test_sites_are_no_lines(self):
        text = "a = 3\n{\nb = [a, c]\n}\nc = [b, a]"
        self.assertEqual(run(Program(text), ())[2], ((0, 3, 0), (1, cell(0), 3)))

    def test_variables_of_all_letters_in_their_order(self):
        text = "z = 1\nm = 2\na = [z, m]\nprint q"
        told = (("a", cell(0)), ("m", 2), ("q", 0), ("z", 1))
        self.assertEqual(final_values(Program(text), ()), told)


class Reachable(unittest.TestCase):
    def cells(self, text, answers=()):
        return reachable_cells(Program(text), answers)

    def test_by_a_variable(self):
        self.assertEqual(self.cells("a = [b, b]"), (0,))
        self.assertEqual(self.cells("a = [b, b]\na = 1"), ())
        self.assertEqual(self.cells("a = [b, b]\nb = a\na = 1"), (0,))
        self.assertEqual(self.cells("a = [b, b]\na = [b, b]"), (1,))

    def test_as_a_part(self):
        self.assertEqual(self.cells("a = [b, b]\na = [a, b]"), (0, 1))
        self.assertEqual(self.cells("a = [b, b]\na = [b, a]"), (0, 1))
        self.assertEqual(self.cells("a = [b, b]\na = [b, a]\na = [b, b]"), (2,))

    def test_as_a_part_of_a_part(self):
        text = "a = [b, b]\nc = [a, b]\na = [b, b]\nc = [b, c]\na = 1\nc = [c, c]"
        self.assertEqual(self.cells(text), (0, 1, 3, 4))

    def test_cells_outlive_their_scope(self):
        self.assertEqual(self.cells("{\na = [b, b]\n}"), (0,))

    def test_a_long_chain(self):
        text = "while ? {\na = [b, a]\n}"
        many = 3000
        self.assertEqual(self.cells(text, (True,) * many), tuple(range(many)))
        text = "while ? {\na = [b, a]\n}\na = [b, b]"
        self.assertEqual(self.cells(text, (True,) * many + (False,)), (many,))

    def test_a_cell_with_many_ways_to_it(self):
        text = "while ? {\na = [a, a]\n}"
        self.assertEqual(self.cells(text, (True,) * 500), tuple(range(500)))

    def test_a_cell_that_is_read_is_reachable_ahead(self):
        text = "a = [b, b]\na = [a, b]\nwhile ? {\na = a.head\n}"
        self.assertEqual(self.cells(text), (0, 1))
        self.assertEqual(self.cells(text, (True,)), (0,))
        self.assertEqual(self.cells(text, (True, True)), ())


if __name__ == "__main__":
    unittest.main()
