"""[E1], [E2], the order of answers, and the interface's scopefree/reads.py."""

import unittest

from scopefree.errors import ScopeError
from scopefree.programs import Program
from scopefree.reads import (
    NoScope, answers_for, check_scope, possible_reads, read_after, values_at,
)
from scopefree.scopes import NoSite

EXAMPLE = "{\na = [b, b]\n}\nif ? {\na = 1\n} else {\n}\nc = a.head"
NESTED = "{\n{\na = [b, b]\nc = a.head\n}\nc = a.tail\n{\nb = [a, a]\n}\n}\n{\n}\nc = b.head"
YES, NO = True, False


class ExampleOfTheDocument(unittest.TestCase):
    def test_example(self):
        program = Program(EXAMPLE)
        self.assertEqual(possible_reads(program), ((0, 7, 0),))
        self.assertIs(read_after(program, 0, 1), True)
        self.assertEqual(values_at(program, 2, "a"), ((0, 1),))
        self.assertEqual(answers_for(program, (0, 7, 0), 4), (False,))


class ValuesAt(unittest.TestCase):
    def rows(self, text, variable):
        program = Program(text)
        return [values_at(program, point, variable) for point in range(len(program.depths))]

    def test_behind_the_line_that_makes_the_cell(self):
        self.assertEqual(self.rows("b = 1\na = [b, b]\nb = 2", "a"), [(), (), ((0, 0),), ((0, 0),)])
        told = [(), (), (), ((0, 2),), ((0, 1),), ((0, 0),)]
        self.assertEqual(self.rows("{\n{\na = [b, b]\n}\n}", "a"), told)

    def test_the_low_is_the_less_of_both(self):
        told = [(), (), ((0, 1),), ((0, 1),), ((0, 1),), ((0, 0),), ((0, 0),)]
        self.assertEqual(self.rows("{\na = [b, b]\n{\n}\n}\n{\n}", "a")[:7], told)

    def test_what_is_set_is_lost(self):
        held = ((0, 0),)
        for line in ("a = 3", "a = c", "a = c.head"):
            self.assertEqual(self.rows("a = [b, b]\n" + line, "a"), [(), held, ()])
        self.assertEqual(self.rows("a = [b, b]\na = [b, b]", "a"), [(), held, ((1, 0),)])
        self.assertEqual(self.rows("a = [b, b]\na = a.head", "a"), [(), held, ()])
        self.assertEqual(self.rows("a = [b, b]\na = a", "a"), [(), held, held])

    def test_what_is_not_set_is_kept(self):
        held = ((0, 0),)
        for line in ("b = 3", "c = a", "b = [a, a]", "c = a.head", "print a", "{\n}", "a = a"):
            self.assertEqual(self.rows("a = [b, b]\n" + line, "a")[2], held)

    def test_copies(self):
        text = "{\na = [b, b]\n}\n{\nb = a\n}\na = 1"
        told = [(), (), (), (), (), ((0, 0),), ((0, 0),), ((0, 0),)]
        self.assertEqual(self.rows(text, "b"), told)

    def test_both_ways_of_a_branch(self):
        text = "if ? {\na = [b, b]\n} else {\na = [b, b]\n}\nif ? {\na = 1\n} else {\n}"
        both = ((0, 0), (1, 0))
        told = [(), (), ((0, 1),), (), ((1, 1),), both, both, (), both, both]
        self.assertEqual(self.rows(text, "a"), told)

    def test_several_lows(self):
        text = "while ? {\n{\nif ? {\na = [b, b]\n} else {\n}\n}\n}"
        told = values_at(Program(text), 2, "a")
        self.assertEqual(told, ((0, 0),))
        self.assertEqual(values_at(Program(text), 6, "a"), ((0, 0), (0, 2)))
        self.assertEqual(values_at(Program(text), 4, "a"), ((0, 3),))

    def test_ascending_by_sites_then_lows(self):
        text = "while ? {\nif ? {\na = [b, b]\n} else {\nif ? {\na = [b, b]\n} else {\n}\n}\n}"
        self.assertEqual(values_at(Program(text), 9, "a"), ((0, 0), (0, 1), (1, 0), (1, 1)))

    def test_parts(self):
        text = "a = [x, x]\nb = [x, x]\nc = [a, b]\nd = c.head\ne = c.tail"
        program = Program(text)
        self.assertEqual(values_at(program, 5, "c"), ((2, 0),))
        self.assertEqual(values_at(program, 5, "d"), ((0, 0),))
        self.assertEqual(values_at(program, 5, "e"), ((1, 0),))
        self.assertEqual(values_at(program, 4, "e"), ())

    def test_a_part_is_the_value_ahead_of_the_pair(self):
        program = Program("a = [x, x]\na = [a, x]\nb = a.head\na = [x, x]\nc = b.head")
        self.assertEqual(values_at(program, 5, "b"), ((0, 0),))
        self.assertEqual(values_at(program, 5, "c"), ())

    def test_the_low_of_a_part_is_the_least_of_three(self):
        text = "{\na = [x, x]\n{\n{\nb = [a, a]\nc = b.head\n}\nc = b.head\n}\nc = b.head\n}\nc = b.tail"
        told = [values_at(Program(text), point, "c") for point in (6, 8, 10, 12)]
        self.assertEqual(told, [((0, 1),), ((0, 1),), ((0, 1),), ((0, 0),)])
        # The part was made farther out, and its low has fallen even more ahead of the pair.
        text = "{\n{\na = [x, x]\n}\n{\nb = [a, a]\nc = b.head\n}\n}"
        self.assertEqual(values_at(Program(text), 7, "c"), ((0, 1),))
        # The pair was made while the part had the low 2; both have come to 1 since.
        text = "{\n{\na = [x, x]\nb = [a, a]\na = 1\n}\n{\nc = b.head\n}\n}"
        self.assertEqual(values_at(Program(text), 8, "c"), ((0, 1),))

    def test_the_low_of_a_part_falls_by_more_than_one(self):
        begin = "{\n{\n{\na = [x, x]\nb = [y, a]\na = 1\n}\n}\n"
        program = Program(begin + "c = b.tail\n}\nc = b.tail")
        self.assertEqual(values_at(program, 9, "c"), ((0, 1),))
        self.assertEqual(values_at(program, 11, "c"), ((0, 0),))
        program = Program("d = [x, x]\n" + begin + "c = b.head\nc = b.tail\n}")
        self.assertEqual(values_at(program, 10, "c"), ())
        self.assertEqual(values_at(program, 11, "c"), ((1, 1),))
        # The reading line lies farther inside than the low of the pair.
        program = Program("{\n{\na = [x, x]\nb = [y, a]\na = 1\n}\n}\n{\nc = b.tail\n}")
        self.assertEqual(values_at(program, 9, "c"), ((0, 0),))

    def test_a_part_of_a_part(self):
        text = "a = [x, x]\nb = [x, a]\nc = [x, b]\nd = c.tail\nd = d.tail"
        self.assertEqual(self.rows(text, "d")[4:], [((1, 0),), ((0, 0),)])
        text = "while ? {\na = [a, b]\n}\nc = a.head\nc = c.head\nc = c.head\nc = c.head"
        self.assertEqual(self.rows(text, "c")[4:], [((0, 0),)] * 4)

    def test_a_cell_of_a_round_long_ago(self):
        # Each round hands the cell on to the variable ahead; the last one has it after four.
        text = "while ? {\ne = d\nd = c\nc = b\nb = a\na = [x, x]\n}"
        program = Program(text)
        told = [values_at(program, 6, name) for name in "abcde"]
        self.assertEqual(told, [((0, 1),), ((0, 0),), ((0, 0),), ((0, 0),), ((0, 0),)])

    def test_a_variable_that_the_program_does_not_have(self):
        program = Program("a = [b, b]")
        self.assertEqual(values_at(program, 1, "a"), ((0, 0),))
        for point in (0, 1):
            for variable in "bcz":
                self.assertEqual(values_at(program, point, variable), ())

    def test_no_lines_and_no_sites(self):
        self.assertEqual(values_at(Program(""), 0, "a"), ())
        self.assertEqual(self.rows("a = b\nwhile ? {\na = b.head\n}", "a"), [()] * 5)


class PossibleReads(unittest.TestCase):
    def reads(self, text):
        return possible_reads(Program(text))

    def test_none(self):
        for text in ("", "a = 1\nb = a.head", "a = [b, b]\nprint a\nc = a", "a = [b, b]\nc = b.head"):
            self.assertEqual(self.reads(text), ())

    def test_heads_and_tails(self):
        self.assertEqual(self.reads("a = [b, b]\nc = a.head\nc = a.tail"), ((0, 1, 0), (0, 2, 0)))

    def test_by_sites_then_points_then_lows(self):
        self.assertEqual(self.reads(NESTED), ((0, 3, 2), (0, 5, 1), (1, 12, 0)))
        text = (
            "while ? {\nif ? {\na = [b, b]\n} else {\nif ? {\na = [b, b]\n} else {\n}\n}\n"
            "c = a.head\n}\nc = a.tail"
        )
        told = (
            (0, 9, 0), (0, 9, 1), (0, 11, 0), (1, 9, 0), (1, 9, 1), (1, 11, 0),
        )
        self.assertEqual(self.reads(text), told)

    def test_more_sites_than_ten(self):
        text = "a = [b, b]\nc = a.head\n" * 12
        told = tuple((site, 2 * site + 1, 0) for site in range(12))
        self.assertEqual(self.reads(text), told)

    def test_a_read_has_the_low_ahead_of_it(self):
        self.assertEqual(self.reads("{\na = [b, b]\na = a.head\n}"), ((0, 2, 1),))
        self.assertEqual(self.reads("{\na = [b, b]\n}\n{\na = a.head\n}"), ((0, 4, 0),))

    def test_what_no_run_reads(self):
        text = "if ? {\na = [b, b]\n} else {\nc = a.head\n}"
        self.assertEqual(self.reads(text), ())
        self.assertEqual(self.reads("while ? {\n" + text + "\n}"), ((0, 4, 0),))

    def test_reads_of_all_depths(self):
        text = "while ? {\n" * 5 + "c = a.head\na = [b, b]\nc = a.tail\n" + "}\n" * 5
        told = tuple((0, 5, low) for low in range(5)) + ((0, 7, 5),)
        self.assertEqual(self.reads(text), told)

    def test_a_read_that_needs_many_answers(self):
        text = "while ? {\nx = e\ne = d\nd = c\nc = b\nb = a\na = [x, x]\n}\nc = x.tail"
        self.assertEqual(self.reads(text), ((0, 8, 0),))


class CheckScope(unittest.TestCase):
    def test_scopes_around(self):
        program = Program(NESTED)
        for site, scopes in ((0, (0, 1, 2)), (1, (0, 1, 3))):
            for scope in scopes:
                self.assertIsNone(check_scope(program, site, scope))

    def test_no_scope_around(self):
        program = Program(NESTED)
        for call in (check_scope, read_after):
            for site, scopes in ((0, (3, 4, 5, -1, 100)), (1, (2, 4, 5, -1, 100))):
                for scope in scopes:
                    with self.assertRaises(NoScope):
                        call(program, site, scope)

    def test_no_site(self):
        for call in (check_scope, read_after):
            for text, many in ((NESTED, 2), ("", 0), ("{\n}", 0)):
                for site in (-1, many, many + 7, -100):
                    with self.assertRaises(NoSite):
                        call(Program(text), site, 0)

    def test_no_site_is_told_ahead_of_no_scope(self):
        for call in (check_scope, read_after):
            for site, scope in ((2, 99), (-1, -1), (2, 3)):
                with self.assertRaises(NoSite):
                    call(Program(NESTED), site, scope)

    def test_errors(self):
        self.assertTrue(issubclass(NoScope, ScopeError))
        self.assertFalse(issubclass(NoScope, NoSite))
        self.assertFalse(issubclass(NoSite, NoScope))


class ReadAfter(unittest.TestCase):
    def test_nested(self):
        program = Program(NESTED)
        told = [read_after(program, 0, scope) for scope in (0, 1, 2)]
        self.assertEqual(told, [False, False, True])
        told = [read_after(program, 1, scope) for scope in (0, 1, 3)]
        self.assertEqual(told, [False, True, True])

    def test_the_scope_0_never_ends(self):
        self.assertIs(read_after(Program("a = [b, b]\nc = a.head"), 0, 0), False)
        self.assertIs(read_after(Program("{\na = [b, b]\n}\nc = a.head"), 0, 0), False)

    def test_without_reads(self):
        program = Program("{\na = [b, b]\n}\nprint a")
        self.assertEqual([read_after(program, 0, scope) for scope in (0, 1)], [False, False])

    def test_reads_of_other_sites_do_not_count(self):
        program = Program("{\na = [x, x]\nb = [x, x]\n}\nc = a.head")
        self.assertEqual([read_after(program, site, 1) for site in (0, 1)], [True, False])

    def test_a_body_ends_with_each_round(self):
        program = Program("while ? {\nc = a.head\na = [b, b]\n}")
        self.assertIs(read_after(program, 0, 1), True)
        program = Program("while ? {\na = [b, b]\nc = a.head\n}")
        self.assertIs(read_after(program, 0, 1), False)

    def test_both_parts_of_a_branch_end(self):
        text = "if ? {\na = [x, x]\n} else {\nb = [x, x]\n}"
        for name, told in (("a", [True, False]), ("b", [False, True])):
            program = Program(text + "\nc = " + name + ".head")
            self.assertEqual([read_after(program, 0, 1), read_after(program, 1, 2)], told)


class AnswersFor(unittest.TestCase):
    def test_no_answers_needed(self):
        program = Program("a = [b, b]\nc = a.head\n" + EXAMPLE)
        for limit in range(9):
            self.assertEqual(answers_for(program, (0, 1, 0), limit), ())

    def test_limits(self):
        text = "while ? {\nc = a.head\na = b\nb = d\nd = [x, x]\n}"
        program = Program(text)
        read = (0, 1, 0)
        self.assertEqual(possible_reads(program), (read,))
        for limit in range(9):
            told = (YES,) * 4 if limit >= 4 else None
            self.assertEqual(answers_for(program, read, limit), told)

    def test_eight_answers(self):
        text = "if ? {\n} else {\na = 1\n}\n" * 7
        program = Program("a = [b, b]\n" + text + "if ? {\n} else {\nc = a.head\n}")
        read = (0, 31, 0)
        self.assertEqual(answers_for(program, read, 8), (YES,) * 7 + (NO,))
        self.assertIsNone(answers_for(program, read, 7))
        text = "while ? {\nwhile ? {\n}\n}\n" * 4
        program = Program("a = [b, b]\n" + text + "c = a.head")
        self.assertEqual(answers_for(program, (0, 17, 0), 4), (NO,) * 4)

    def test_nine_answers_are_too_many(self):
        text = "while ? {\n}\n" * 9 + "c = a.head"
        program = Program("a = [b, b]\n" + text)
        self.assertEqual(possible_reads(program), ((0, 19, 0),))
        self.assertIsNone(answers_for(program, (0, 19, 0), 8))

    def test_fewer_come_first(self):
        text = "a = [b, b]\nif ? {\nif ? {\n} else {\n}\n} else {\n}\nc = a.head"
        self.assertEqual(answers_for(Program(text), (0, 7, 0), 8), (NO,))

    def test_of_as_many_yes_comes_first(self):
        text = "a = [b, b]\nif ? {\na = 1\n} else {\n}\nif ? {\n} else {\n}\nc = a.head"
        self.assertEqual(answers_for(Program(text), (0, 8, 0), 8), (NO, YES))
        text = "a = [b, b]\nif ? {\n} else {\n}\nif ? {\na = 1\n} else {\n}\nc = a.head"
        self.assertEqual(answers_for(Program(text), (0, 8, 0), 8), (YES, NO))
        text = "a = [b, b]\nwhile ? {\nif ? {\n} else {\nc = a.head\n}\n}"
        self.assertEqual(answers_for(Program(text), (0, 4, 0), 8), (YES, NO))

    def test_site_point_and_low_count(self):
        text = "while ? {\nif ? {\na = [b, b]\n} else {\na = [b, b]\n}\nc = a.head\n}\nc = a.tail"
        program = Program(text)
        self.assertEqual(answers_for(program, (0, 6, 1), 8), (YES, YES))
        self.assertEqual(answers_for(program, (1, 6, 1), 8), (YES, NO))
        self.assertEqual(answers_for(program, (0, 8, 0), 8), (YES, YES, NO))
        self.assertEqual(answers_for(program, (1, 8, 0), 8), (YES, NO, NO))
        text = "while ? {\na = [b, b]\nwhile ? {\nc = d.head\n}\nd = a\n}"
        program = Program(text)
        self.assertEqual(answers_for(program, (0, 3, 0), 8), (YES, NO, YES, YES))
        self.assertIsNone(answers_for(program, (0, 3, 1), 8))

    def test_reads_ahead_of_the_first_question(self):
        program = Program("a = [x, x]\nb = [a, x]\nc = a.head\nc = b.head\nc = a.tail")
        for read in ((0, 2, 0), (1, 3, 0), (0, 4, 0)):
            self.assertEqual(answers_for(program, read, 0), ())

    def test_the_two_answers_to_a_question_have_nothing_in_common(self):
        # What yes makes and sets must not be there for no.
        text = (
            "while ? {\nif ? {\n{\na = [x, x]\n}\nb = [a, x]\nx = 5\n} else {\n"
            "{\nc = [y, y]\nd = c.head\n}\nd = c.head\nd = b.head\nd = a.head\n}\n}"
        )
        program = Program(text)
        self.assertEqual(answers_for(program, (2, 10, 3), 8), (YES, NO))
        self.assertEqual(answers_for(program, (2, 12, 2), 8), (YES, NO))
        self.assertIsNone(answers_for(program, (2, 12, 3), 8))
        self.assertEqual(answers_for(program, (1, 13, 0), 8), (YES, YES, YES, NO))
        self.assertEqual(answers_for(program, (0, 14, 0), 8), (YES, YES, YES, NO))

    def test_a_tuple_that_is_no_read(self):
        program = Program(EXAMPLE)
        rows = (
            (0, 7, 1), (1, 7, 0), (0, 1, 0), (0, 1, 1), (0, 6, 0), (0, 8, 0), (-1, 7, 0), (0, -1, 0),
            (0, 7, -1), (50, 7, 0), (0, 500, 0), (0, 7, 50),
        )
        for row in rows:
            for limit in (0, 1, 8):
                self.assertIsNone(answers_for(program, row, limit))

    def test_no_lines_and_no_sites(self):
        for text in ("", "while ? {\na = b.head\n}"):
            for limit in (0, 8):
                self.assertIsNone(answers_for(Program(text), (0, 0, 0), limit))
                self.assertIsNone(answers_for(Program(text), (0, 1, 0), limit))

    def test_a_list_may_stand_for_a_tuple(self):
        program = Program(EXAMPLE)
        read = [0, 7, 0]
        self.assertEqual(answers_for(program, read, 4), (False,))
        self.assertEqual(read, [0, 7, 0])

    def test_limits_beyond(self):
        text = "while ? {\n}\n" * 9 + "c = a.head"
        program = Program("a = [b, b]\n" + text)
        self.assertEqual(answers_for(program, (0, 19, 0), 10), (NO,) * 9)
        self.assertIsNone(answers_for(Program("a = [b, b]\nc = a.head"), (0, 1, 0), -1))


if __name__ == "__main__":
    unittest.main()
