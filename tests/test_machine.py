"""[H1] to [H4] and the interface's scopefree/machine.py."""

import unittest

from scopefree.errors import ScopeError
from scopefree.machine import (
    BadCapacity, Machine, NotNow, NoVariable, UnsafePlan, lacking_answers,
)
from scopefree.plans import BadPlan
from scopefree.programs import Program

LOOP = "while ? {\na = [b, b]\n}\nprint a"
# With the plan (1, 0) a released cell of the site 0 is read.
LATE = "{\na = [x, x]\n}\nb = [a, x]\nc = a.head"


def shown(machine):
    """All that a machine tells."""
    words = {name: machine.word(name) for name in machine_variables(machine)}
    return machine.state(), machine.memory(), machine.taken(), words


def machine_variables(machine):
    found = []
    for name in "abcdefxyz":
        try:
            machine.word(name)
            found.append(name)
        except NoVariable:
            pass
    return found


def not_now(call, *arguments):
    """The attribute state of the NotNow that a call raises."""
    try:
        call(*arguments)
    except NotNow as error:
        return error.state
    raise AssertionError("no NotNow")


def to_the_end(machine, answers=()):
    """All events of a machine, as far as the answers go."""
    left = list(answers)
    events = [machine.go()]
    while events[-1][0] == "print" or (events[-1][0] == "ask" and left):
        events.append(machine.go() if events[-1][0] == "print" else machine.answer(left.pop(0)))
    return events


class ExampleOfTheDocument(unittest.TestCase):
    def test_one_address(self):
        machine = Machine(Program(LOOP), (1,), 1)
        self.assertEqual(machine.go(), ("ask", 0))
        self.assertEqual(machine.answer(True), ("ask", 0))
        self.assertEqual(machine.answer(False), ("print", "pair"))
        self.assertEqual(machine.go(), ("end", 0))
        self.assertEqual(machine.memory(), (0, 0))

    def test_no_address(self):
        machine = Machine(Program(LOOP), (1,), 0)
        self.assertEqual(machine.go(), ("ask", 0))
        self.assertEqual(machine.answer(True), ("lack", 1))

    def test_memory(self):
        machine = Machine(Program("a = 3\nb = [a, a]\nc = [b, a]"), (0, 0), 2)
        self.assertEqual(machine.go(), ("end", 2))
        self.assertEqual(machine.memory(), (6, 6, 1, 6))


class Beginning(unittest.TestCase):
    def test_a_new_machine_has_done_nothing(self):
        for capacity in (0, 1, 2, 64):
            machine = Machine(Program("a = 3\nb = [a, a]\nprint b"), (0,), capacity)
            told = ("ready", (0,) * (2 * capacity), (), {"a": 0, "b": 0})
            self.assertEqual(shown(machine), told)

    def test_no_lines(self):
        for plan in ((), []):
            machine = Machine(Program(""), plan, 0)
            self.assertEqual(machine.go(), ("end", 0))
            self.assertEqual(shown(machine), ("ended", (), (), {}))

    def test_no_sites(self):
        machine = Machine(Program("a = 7\nif ? {\nprint a\n} else {\n}"), (), 0)
        self.assertEqual(to_the_end(machine, (True,)), [("ask", 1), ("print", 7), ("end", 0)])
        machine = Machine(Program("a = 7\nif ? {\nprint a\n} else {\n}"), (), 3)
        self.assertEqual(to_the_end(machine, (False,)), [("ask", 1), ("end", 0)])
        self.assertEqual(machine.memory(), (0,) * 6)

    def test_a_plan_may_be_a_list_and_stays_as_it_is(self):
        plan = [1]
        machine = Machine(Program(LOOP), plan, 1)
        self.assertEqual(to_the_end(machine, (True, True, False))[-1], ("end", 0))
        self.assertEqual(plan, [1])

    def test_machines_share_nothing(self):
        program = Program(LOOP)
        first, second = Machine(program, (0,), 3), Machine(program, (0,), 3)
        to_the_end(first, (True, True))
        self.assertEqual(first.taken(), (0, 1))
        self.assertEqual(shown(second), ("ready", (0,) * 6, (), {"a": 0, "b": 0}))


class Words(unittest.TestCase):
    def test_numbers_and_cells(self):
        text = "a = 999\nb = [a, x]\nc = [b, b]\nd = c\ne = c.head"
        machine = Machine(Program(text), (0, 0), 2)
        self.assertEqual(to_the_end(machine), [("end", 2)])
        self.assertEqual(machine.memory(), (1998, 0, 1, 1))
        words = {"a": 1998, "b": 1, "c": 3, "d": 3, "e": 1, "x": 0}
        self.assertEqual({name: machine.word(name) for name in words}, words)

    def test_heads_and_tails(self):
        text = (
            "a = 5\nb = [a, x]\na = 7\nc = [x, a]\nd = [b, c]\n"
            "a = d.head\nb = d.tail\na = a.head\nb = b.tail"
        )
        machine = Machine(Program(text), (0, 0, 0), 3)
        to_the_end(machine)
        self.assertEqual((machine.word("a"), machine.word("b")), (10, 14))
        self.assertEqual(machine.memory(), (10, 0, 0, 14, 1, 3))

    def test_parts_of_numbers(self):
        machine = Machine(Program("a = 9\nb = a.head\nc = a.tail\nb = b.tail"), (), 0)
        to_the_end(machine)
        self.assertEqual([machine.word(name) for name in "abc"], [18, 18, 18])

    def test_prints(self):
        text = (
            "print a\na = 1\nprint a\na = 2\nprint a\nb = [a, a]\nprint b\nb = b.tail\nprint b\n"
            "a = 999\nprint a"
        )
        machine = Machine(Program(text), (0,), 1)
        told = [0, 1, 2, "pair", 2, 999]
        self.assertEqual(to_the_end(machine), [("print", word) for word in told] + [("end", 1)])

    def test_a_variable_keeps_the_word_of_a_released_cell(self):
        text = "{\na = [x, x]\n}\nprint a\n{\nb = [x, x]\n}\nprint a\nc = a"
        machine = Machine(Program(text), (1, 2), 1)
        self.assertEqual(to_the_end(machine), [("print", "pair"), ("print", "pair"), ("end", 0)])
        self.assertEqual([machine.word(name) for name in "abcx"], [1, 1, 1, 0])

    def test_no_variable(self):
        machine = Machine(Program("a = 3\nb = a\nprint c"), (), 1)
        for name in ("d", "z", "", "ab", "bc", "A", "abc"):
            ahead = (machine.state(), machine.memory(), machine.taken())
            with self.assertRaises(NoVariable):
                machine.word(name)
            self.assertEqual((machine.state(), machine.memory(), machine.taken()), ahead)
        self.assertEqual(machine.word("c"), 0)
        self.assertEqual(to_the_end(machine), [("print", 0), ("end", 0)])
        with self.assertRaises(NoVariable):
            machine.word("d")
        self.assertEqual([machine.word(name) for name in "abc"], [6, 6, 0])


class Addresses(unittest.TestCase):
    def test_the_least_free_address_is_taken(self):
        text = (
            "{\na = [x, x]\n{\nb = [x, x]\n}\nc = [x, x]\nprint a\n}\nd = [x, x]\nprint d\n"
            "{\ne = [x, x]\nprint e\n}\nprint x"
        )
        machine = Machine(Program(text), (0, 2, 1, 0, 3), 4)
        told = []
        for _ in range(4):
            self.assertEqual(machine.go()[0], "print")
            told.append((machine.taken(), [machine.word(name) for name in "abcde"]))
        right = [
            ((0, 1), [1, 3, 3, 0, 0]), ((0, 1), [1, 3, 3, 3, 0]), ((0, 1, 2), [1, 3, 3, 3, 5]),
            ((0, 1), [1, 3, 3, 3, 5]),
        ]
        self.assertEqual(told, right)
        self.assertEqual(machine.go(), ("end", 2))

    def test_a_free_address_between_taken_ones(self):
        text = "while ? {\n{\na = [x, x]\nb = [x, x]\n}\nc = [x, x]\nprint x\n}"
        program = Program(text)
        machine = Machine(program, (2, 1, 0), 5)
        self.assertEqual(machine.go(), ("ask", 0))
        self.assertEqual(machine.answer(True), ("print", 0))
        # The first cell was released ahead of the third one, the second one not yet.
        self.assertEqual(machine.taken(), (0, 1))
        self.assertEqual([machine.word(name) for name in "abc"], [1, 3, 1])
        self.assertEqual(machine.go(), ("ask", 0))
        self.assertEqual(machine.taken(), (0,))
        self.assertEqual(machine.answer(True), ("print", 0))
        self.assertEqual(machine.taken(), (0, 1, 2))
        self.assertEqual([machine.word(name) for name in "abc"], [3, 5, 3])
        machine.go()
        self.assertEqual(machine.taken(), (0, 1))
        self.assertEqual(machine.answer(False), ("end", 2))

    def test_released_words_stay_until_they_are_written_again(self):
        text = "a = 1\n{\nb = [a, a]\n}\nprint a\na = 2\n{\nc = [a, b]\n}\nprint a"
        machine = Machine(Program(text), (1, 2), 2)
        self.assertEqual(machine.go(), ("print", 1))
        self.assertEqual((machine.memory(), machine.taken()), ((2, 2, 0, 0), ()))
        self.assertEqual(machine.go(), ("print", 2))
        self.assertEqual((machine.memory(), machine.taken()), ((4, 1, 0, 0), ()))

    def test_planned_scopes_are_told_by_number_not_by_depth(self):
        text = "{\n}\n{\n{\na = [x, x]\nb = [x, x]\n}\nprint x\n}\nprint x"
        told = []
        for plan in ((0, 2), (2, 3), (3, 0), (2, 2)):
            machine = Machine(Program(text), plan, 2)
            machine.go()
            first = machine.taken()
            machine.go()
            told.append((first, machine.taken()))
        self.assertEqual(told, [((0, 1), (0,)), ((0,), ()), ((1,), (1,)), ((0, 1), ())])

    def test_the_end_tells_how_many_are_taken(self):
        text = "while ? {\na = [x, x]\n}\n{\nb = [x, x]\n}"
        machine = Machine(Program(text), (0, 2), 64)
        self.assertEqual(to_the_end(machine, (True,) * 5 + (False,))[-1], ("end", 5))
        self.assertEqual(machine.taken(), (0, 1, 2, 3, 4))
        machine = Machine(Program(text), (0, 0), 64)
        self.assertEqual(to_the_end(machine, (False,)), [("ask", 0), ("end", 1)])

    def test_all_64_addresses(self):
        program = Program("while ? {\na = [a, x]\n}\nprint a")
        machine = Machine(program, (0,), 64)
        told = to_the_end(machine, (True,) * 64 + (False,))
        self.assertEqual(told, [("ask", 0)] * 65 + [("print", "pair"), ("end", 64)])
        self.assertEqual(machine.taken(), tuple(range(64)))
        self.assertEqual(machine.word("a"), 127)
        words = [0, 0]
        for at in range(63):
            words += [2 * at + 1, 0]
        self.assertEqual(machine.memory(), tuple(words))
        machine = Machine(program, (0,), 64)
        self.assertEqual(to_the_end(machine, (True,) * 65), [("ask", 0)] * 65 + [("lack", 1)])


class Lacking(unittest.TestCase):
    def test_all_is_as_it_was_ahead_of_the_line(self):
        text = "a = 4\nb = [a, a]\na = 5\nb = [a, b]"
        machine = Machine(Program(text), (0, 0), 1)
        self.assertEqual(machine.go(), ("lack", 3))
        self.assertEqual(shown(machine), ("ended", (8, 8), (0,), {"a": 10, "b": 1}))

    def test_at_the_first_line(self):
        machine = Machine(Program("a = [b, b]"), (0,), 0)
        self.assertEqual(machine.go(), ("lack", 0))
        self.assertEqual(shown(machine), ("ended", (), (), {"a": 0, "b": 0}))

    def test_as_many_as_there_are(self):
        text = "a = [x, x]\nb = [x, x]\nc = [x, x]"
        for capacity in range(5):
            told = to_the_end(Machine(Program(text), (0, 0, 0), capacity))
            self.assertEqual(told, [("end", 3) if capacity >= 3 else ("lack", capacity)])


class States(unittest.TestCase):
    def test_ready_asked_and_ended(self):
        machine = Machine(Program("print a\nif ? {\n} else {\n}\nprint a"), (), 0)
        told = [machine.state()]
        for call, arguments in (
            (machine.go, ()), (machine.go, ()), (machine.answer, (True,)), (machine.go, ()),
        ):
            call(*arguments)
            told.append(machine.state())
        self.assertEqual(told, ["ready", "ready", "asked", "ready", "ended"])

    def test_no_answer_if_it_has_not_asked(self):
        machine = Machine(Program("print a\nwhile ? {\n}\nprint a"), (), 1)
        for right in (("print", 0), ("ask", 1)):
            ahead = shown(machine)
            for yes in (True, False):
                self.assertEqual(not_now(machine.answer, yes), "ready")
            self.assertEqual(shown(machine), ahead)
            self.assertEqual(machine.go(), right)

    def test_no_going_on_if_it_has_asked(self):
        machine = Machine(Program(LOOP), (1,), 1)
        for _ in range(3):
            if machine.state() == "ready":
                machine.go()
            else:
                machine.answer(True)
            ahead = shown(machine)
            self.assertEqual(not_now(machine.go), "asked")
            self.assertEqual(shown(machine), ahead)
        self.assertEqual(machine.answer(False), ("print", "pair"))

    def test_nothing_behind_the_end(self):
        machine = Machine(Program("a = 3\nb = [a, a]"), (0,), 2)
        self.assertEqual(machine.go(), ("end", 1))
        self.refuses_all(machine)
        machine = Machine(Program(""), (), 0)
        self.assertEqual(machine.go(), ("end", 0))
        self.refuses_all(machine)

    def test_nothing_behind_a_lack(self):
        machine = Machine(Program(LOOP), (0,), 1)
        self.assertEqual(to_the_end(machine, (True, True))[-1], ("lack", 1))
        self.refuses_all(machine)
        self.assertEqual(machine.taken(), (0,))

    def refuses_all(self, machine):
        ahead = shown(machine)
        self.assertEqual(ahead[0], "ended")
        for _ in range(2):
            self.assertEqual(not_now(machine.go), "ended")
            self.assertEqual(not_now(machine.answer, True), "ended")
            self.assertEqual(not_now(machine.answer, False), "ended")
            self.assertEqual(shown(machine), ahead)

    def test_answers(self):
        text = "if ? {\nprint a\n} else {\na = 1\nprint a\n}\nwhile ? {\nprint a\n}"
        told = to_the_end(Machine(Program(text), (), 0), (True, True, False))
        right = [("ask", 0), ("print", 0), ("ask", 6), ("print", 0), ("ask", 6), ("end", 0)]
        self.assertEqual(told, right)
        told = to_the_end(Machine(Program(text), (), 0), (False, False))
        self.assertEqual(told, [("ask", 0), ("print", 1), ("ask", 6), ("end", 0)])


class WrongInputs(unittest.TestCase):
    def test_errors(self):
        for kind in (UnsafePlan, BadCapacity, NoVariable, NotNow):
            self.assertTrue(issubclass(kind, ScopeError))
            self.assertIsNot(kind, ScopeError)

    def test_bad_plans(self):
        program = Program(LATE)
        for plan, site in (((), None), ((0, 0, 0), None), ((2, 0), 0), ((1, 1), 1), ([-1, 9], 0)):
            for capacity in (2, -1, 65):
                for call in (Machine, lacking_answers):
                    if call is Machine or capacity >= 0:
                        with self.assertRaises(BadPlan) as caught:
                            call(program, plan, capacity)
                        self.assertEqual(caught.exception.site, site)

    def test_unsafe_plans(self):
        program = Program(LATE)
        for capacity in (0, 2, 64, -1, 65):
            with self.assertRaises(UnsafePlan):
                Machine(program, (1, 0), capacity)
        for capacity in (0, 1, 2, 64, 65):
            with self.assertRaises(UnsafePlan):
                lacking_answers(program, [1, 0], capacity)
        # No answers of a few bring the read, but it is there.
        late = Program("{\na = [b, b]\n}\n" + "while ? {\n}\n" * 12 + "c = a.head")
        for call in (Machine, lacking_answers):
            with self.assertRaises(UnsafePlan):
                call(late, (1,), 4)

    def test_bad_capacities(self):
        program = Program(LATE)
        for capacity in (-1, 65, -100, 1000):
            with self.assertRaises(BadCapacity):
                Machine(program, (0, 0), capacity)
            with self.assertRaises(BadCapacity):
                Machine(Program(""), (), capacity)
        for capacity in (0, 1, 63, 64):
            self.assertEqual(len(Machine(program, (0, 0), capacity).memory()), 2 * capacity)

    def test_a_refused_call_changes_nothing(self):
        program, plan = Program(LATE), [1, 0]
        ahead = dict(vars(program))
        for wrong in ([1], [9, 9], plan):
            with self.assertRaises(ScopeError):
                Machine(program, wrong, 2)
        with self.assertRaises(BadCapacity):
            Machine(program, [0, 0], 65)
        self.assertEqual((plan, vars(program)), ([1, 0], ahead))


class LackingAnswers(unittest.TestCase):
    def check(self, text, plan, capacity):
        program = Program(text)
        answers = lacking_answers(program, plan, capacity)
        self.assertIs(type(answers), tuple)
        self.assertLessEqual({type(yes) for yes in answers}, {bool})
        self.assertLessEqual(len(answers), 200 + 100 * capacity)
        self.assertEqual(to_the_end(Machine(program, plan, capacity), answers)[-1][0], "lack")

    def test_below_the_greatest_use(self):
        text = (
            "a = [b, b]\nif ? {\nprint b\nc = [a, a]\nd = [c, c]\n} else {\ne = [a, a]\n}\n"
            "f = [a, a]"
        )
        for capacity in range(3):
            self.check(text, (0, 1, 1, 2, 0), capacity)
            self.check(text, [0, 1, 1, 2, 0], capacity)
            self.check(text, (0, 0, 0, 0, 0), capacity)
        self.check(text, (0, 0, 0, 0, 0), 3)
        for capacity in (3, 4, 64, 65, 200):
            self.assertIsNone(lacking_answers(Program(text), (0, 1, 1, 2, 0), capacity))
        for capacity in (4, 5, 64, 100):
            self.assertIsNone(lacking_answers(Program(text), (0, 0, 0, 0, 0), capacity))

    def test_without_a_greatest_use(self):
        text = "while ? {\nwhile ? {\na = [x, x]\n}\nprint x\nb = [x, x]\n}"
        for capacity in (0, 1, 2, 17, 64):
            self.check(LOOP, (0,), capacity)
            self.check(text, (1, 1), capacity)

    def test_never(self):
        for text in ("", "print a", "while ? {\n}"):
            for capacity in (0, 1, 64):
                self.assertIsNone(lacking_answers(Program(text), (), capacity))
        for capacity in (1, 2, 64):
            self.assertIsNone(lacking_answers(Program(LOOP), (1,), capacity))
        self.check(LOOP, (1,), 0)

    def test_more_addresses_than_a_machine_has(self):
        for capacity in (65, 70, 100):
            answers = lacking_answers(Program(LOOP), (0,), capacity)
            self.assertEqual(answers[:capacity + 1], (True,) * (capacity + 1))
            self.assertLessEqual(len(answers), 200 + 100 * capacity)


if __name__ == "__main__":
    unittest.main()
