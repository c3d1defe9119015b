"""[B2] and [B3]: answers that lead to points, and the lows of ways."""

import itertools
import unittest

from scopefree.errors import ScopeError
from scopefree.programs import Program
from scopefree.scopes import NoPoint, answers_to, possible_lows
from tests.small import plain_programs, program_of

EXAMPLE = "if ? {\na = [b, b]\n} else {\n}\nwhile ? {\n}"


def points_with_all(program, answers):
    """The points at which a way from point 0 can be when it has used exactly these answers."""
    left = list(answers)
    point = 0
    found = [] if left else [point]
    while True:
        stops = program.followers[point]
        if len(stops) == 2 and left:
            point = stops[0] if left.pop(0) else stops[1]
        elif len(stops) == 1:
            point = stops[0]
        else:
            return found
        if not left:
            found.append(point)


def first_answers(program):
    """For each point the first row of answers, all rows being tried in their order."""
    found = {}
    for many in itertools.count():
        for answers in itertools.product((True, False), repeat=many):
            for point in points_with_all(program, answers):
                found.setdefault(point, answers)
        if len(found) == len(program.depths):
            return found


def lows_from(program, start):
    """For each point all lows of ways from a start to it, by following the ways themselves."""
    seen = {(start, program.depths[start])}
    waiting = list(seen)
    while waiting:
        point, low = waiting.pop()
        for stop in program.followers[point]:
            step = (stop, min(low, program.depths[stop]))
            if step not in seen:
                seen.add(step)
                waiting.append(step)
    return [tuple(sorted(low for at, low in seen if at == p)) for p in range(len(program.depths))]


class AnswersTo(unittest.TestCase):
    def test_example_of_the_document(self):
        program = Program(EXAMPLE)
        self.assertEqual(answers_to(program, 2), (True,))
        self.assertEqual(answers_to(program, 6), (True, False))

    def all_answers(self, text):
        program = Program(text)
        return [answers_to(program, point) for point in range(len(program.depths))]

    def test_no_answer_needed(self):
        self.assertEqual(self.all_answers(""), [()])
        self.assertEqual(self.all_answers("a = 1\n{\na = 2\n}"), [()] * 5)

    def test_branch(self):
        yes, no = (True,), (False,)
        text = "a = 1\nif ? {\na = 2\n} else {\na = 3\n}\nprint a"
        self.assertEqual(self.all_answers(text), [(), (), yes, yes, no, no, yes, yes])

    def test_loop(self):
        yes, no = (True,), (False,)
        text = "while ? {\na = 2\n}\nprint a"
        self.assertEqual(self.all_answers(text), [(), yes, yes, no, no])

    def test_fewer_answers_come_first(self):
        # Behind the branch yes alone would do, but the inner question makes it two answers.
        text = "if ? {\nif ? {\n} else {\n}\n} else {\n}\nprint a"
        self.assertEqual(
            self.all_answers(text),
            [(), (True,), (True, True), (True, False), (True, True), (False,), (False,), (False,)],
        )

    def test_yes_comes_first_of_as_many(self):
        text = "if ? {\nif ? {\n} else {\n}\n} else {\nif ? {\n} else {\n}\n}\nprint a"
        self.assertEqual(answers_to(Program(text), 9), (True, True))

    def test_behind_loops_and_within_each_other(self):
        text = "while ? {\nwhile ? {\n}\n}\nwhile ? {\n}"
        self.assertEqual(
            self.all_answers(text),
            [(), (True,), (True, True), (True, False), (False,), (False, True), (False, False)],
        )

    def test_between_branches_and_loops(self):
        text = "if ? {\nwhile ? {\n}\n} else {\na = 1\n}\na = 2\nwhile ? {\nif ? {\n} else {\n}\n}"
        yes, no = True, False
        self.assertEqual(
            self.all_answers(text),
            [
                (), (yes,), (yes, yes), (yes, no), (no,), (no,), (no,), (no,), (no, yes),
                (no, yes, yes), (no, yes, no), (no, yes, yes), (no, no),
            ],
        )

    def test_many_questions(self):
        program = Program("if ? {\n} else {\n}\n" * 26)
        self.assertEqual(answers_to(program, 78), (True,) * 26)
        program = Program("while ? {\n}\n" * 40)
        self.assertEqual(answers_to(program, 80), (False,) * 40)
        self.assertEqual(answers_to(program, 79), (False,) * 39 + (True,))

    def test_all_small_programs(self):
        for plain in plain_programs(7):
            program = program_of(plain)
            found = first_answers(program)
            for point in range(len(program.depths)):
                self.assertEqual(answers_to(program, point), found[point], (plain.lines, point))

    def test_no_point(self):
        for text, behind in (("", 1), (EXAMPLE, 7)):
            for point in (-1, behind, -100, 1000):
                with self.assertRaises(NoPoint):
                    answers_to(Program(text), point)


class PossibleLows(unittest.TestCase):
    def test_example_of_the_document(self):
        self.assertEqual(possible_lows(Program(EXAMPLE), 5, 5), (0, 1))

    def test_from_a_point_to_itself(self):
        program = Program("{\na = 1\nwhile ? {\nb = 1\n}\n}\na = 1")
        self.assertEqual(possible_lows(program, 0, 0), (0,))
        self.assertEqual(possible_lows(program, 1, 1), (1,))
        self.assertEqual(possible_lows(program, 3, 3), (1, 2))
        self.assertEqual(possible_lows(program, 7, 7), (0,))
        self.assertEqual(possible_lows(Program(""), 0, 0), (0,))

    def test_where_no_way_leads(self):
        program = Program("a = 1\nif ? {\n} else {\n}")
        self.assertEqual(possible_lows(program, 1, 0), ())
        self.assertEqual(possible_lows(program, 2, 3), ())
        self.assertEqual(possible_lows(program, 3, 2), ())
        self.assertEqual(possible_lows(program, 4, 1), ())

    def test_a_loop_that_is_passed_or_left_and_entered_again(self):
        text = "while ? {\na = 1\nif ? {\nb = 1\n} else {\nc = 1\n}\nd = 1\n}"
        program = Program(text)
        self.assertEqual(possible_lows(program, 3, 4), (0, 2))
        self.assertEqual(possible_lows(program, 3, 5), (0,))
        self.assertEqual(possible_lows(program, 3, 7), (0, 1))
        self.assertEqual(possible_lows(program, 1, 7), (0, 1))
        self.assertEqual(possible_lows(program, 7, 1), (0,))
        self.assertEqual(possible_lows(program, 3, 9), (0,))

    def test_the_low_is_that_of_the_way_not_of_its_ends(self):
        program = Program("{\n{\n}\n{\n}\n}\n{\n{\n}\n}")
        self.assertEqual(possible_lows(program, 2, 2), (2,))
        self.assertEqual(possible_lows(program, 2, 4), (1,))
        self.assertEqual(possible_lows(program, 2, 8), (0,))
        self.assertEqual(possible_lows(program, 2, 5), (1,))

    def test_three_lows(self):
        program = Program("while ? {\nwhile ? {\nwhile ? {\na = 1\n}\n}\n}")
        self.assertEqual(possible_lows(program, 3, 3), (0, 1, 2, 3))
        self.assertEqual(possible_lows(program, 3, 4), (0, 1, 2, 3))
        self.assertEqual(possible_lows(program, 2, 3), (0, 1, 2))
        self.assertEqual(possible_lows(program, 5, 3), (0, 1))
        self.assertEqual(possible_lows(program, 4, 6), (0, 1))

    def test_all_small_programs(self):
        for plain in plain_programs(7):
            program = program_of(plain)
            points = range(len(program.depths))
            for start in points:
                found = lows_from(program, start)
                for stop in points:
                    self.assertEqual(
                        possible_lows(program, start, stop), found[stop], (plain.lines, start, stop)
                    )

    def test_no_point(self):
        program = Program(EXAMPLE)
        for first, second in ((-1, 0), (0, -1), (7, 0), (0, 7), (-1, 7), (7, -1)):
            with self.assertRaises(NoPoint):
                possible_lows(program, first, second)

    def test_no_point_is_an_error_of_the_package(self):
        self.assertTrue(issubclass(NoPoint, ScopeError))


if __name__ == "__main__":
    unittest.main()
