"""A machine that runs a program with so many addresses, and releases them as a safe plan says."""

from scopefree.errors import ScopeError
from scopefree.plans import is_safe
from scopefree.use import answers_with

MOST_CAPACITY = 64
READY = "ready"
ASKED = "asked"
ENDED = "ended"
PARTS = {"head": 0, "tail": 1}


class UnsafePlan(ScopeError):
    """With a plan some run would read a released cell."""


class BadCapacity(ScopeError):
    """A machine can not have so many addresses."""


class NoVariable(ScopeError):
    """A program does not have such a variable."""


class NotNow(ScopeError):
    """A machine can not go on in this way in its present state."""

    def __init__(self, state):
        super().__init__(f"not now: the machine is {state}")
        self.state = state


class Machine:
    """A program as it runs with so many addresses.

    planned leads from the line of each site to the depth of its planned scope. floors has this
    depth for each address that is taken, and None for each one that is free.
    """

    def __init__(self, program, plan, capacity):
        check_safe(program, plan)
        if not 0 <= capacity <= MOST_CAPACITY:
            raise BadCapacity(f"not from 0 to {MOST_CAPACITY}: {capacity}")
        depths = program.scope_depths
        self.program = program
        self.planned = {line: depths[scope] for line, scope in zip(program.sites, plan)}
        self.floors = [None] * capacity
        self.words = [0] * (2 * capacity)
        self.held = {name: 0 for name in program.variables}
        self.point = 0
        self.mode = READY

    def state(self):
        """Tells if the machine is ready, has asked or has ended."""
        return self.mode

    def memory(self):
        """Tells the words of the memory."""
        return tuple(self.words)

    def taken(self):
        """Tells the addresses that are taken, ascending."""
        return tuple([at for at, floor in enumerate(self.floors) if floor is not None])

    def word(self, variable):
        """Tells the word of a variable."""
        if variable not in self.held:
            raise NoVariable(f"there is no variable {variable}")
        return self.held[variable]

    def go(self):
        """Goes on to the next event, and tells it."""
        self.check_state(READY)
        return self.next_event()

    def answer(self, yes):
        """Takes the answer to the question, goes on to the next event, and tells it."""
        self.check_state(ASKED)
        first, second = self.program.followers[self.point]
        self.mode = READY
        self.enter(first if yes else second)
        return self.next_event()

    def check_state(self, mode):
        """Raises NotNow if the machine is not in a state."""
        if self.mode != mode:
            raise NotNow(self.mode)

    def next_event(self):
        """Does line after line up to the next event, and tells it."""
        event = self.halt()
        while event is None:
            event = self.step()
            if event is None:
                event = self.halt()
        return event

    def halt(self):
        """Tells the event at which the machine stops ahead of the next line, or None."""
        point = self.point
        onward = len(self.program.followers[point])
        if onward > 1:
            self.mode = ASKED
            return ("ask", point)
        if onward == 0:
            self.mode = ENDED
            return ("end", len(self.taken()))
        if point in self.planned and None not in self.floors:
            self.mode = ENDED
            return ("lack", point)
        return None

    def step(self):
        """Does the next line and goes behind it; tells what it prints as an event, or None."""
        event = self.do(self.program.statements[self.point])
        self.enter(self.program.followers[self.point][0])
        return event

    def enter(self, point):
        """Goes to a point, and frees the addresses of all cells that are released there."""
        depth = self.program.depths[point]
        if depth < self.program.depths[self.point]:
            floors = self.floors
            self.floors = [None if floor is None or floor > depth else floor for floor in floors]
        self.point = point

    def do(self, statement):
        """Does what a line says to the words; tells what it prints as an event, or None."""
        name = statement[0]
        if name == "print":
            return ("print", told(self.held[statement[1]]))
        if name == "number":
            self.held[statement[1]] = 2 * statement[2]
        elif name == "copy":
            self.held[statement[1]] = self.held[statement[2]]
        elif name == "pair":
            self.held[statement[1]] = self.make(self.held[statement[2]], self.held[statement[3]])
        elif name in PARTS:
            self.held[statement[1]] = self.part(self.held[statement[2]], PARTS[name])
        return None

    def make(self, first, second):
        """Makes a cell at the least free address, and tells its word."""
        address = self.floors.index(None)
        self.floors[address] = self.planned[self.point]
        self.words[2 * address] = first
        self.words[2 * address + 1] = second
        return 2 * address + 1

    def part(self, word, place):
        """Tells the word of a part of a cell; the word of a number stays as it is."""
        if not is_cell_word(word):
            return word
        return self.words[word - 1 + place]


def is_cell_word(word):
    """Tells if a word is that of a cell, and not of a number."""
    return word & 1 == 1


def told(word):
    """Tells what is printed for a word."""
    return "pair" if is_cell_word(word) else word // 2


def check_safe(program, plan):
    """Raises BadPlan for what is no plan, and UnsafePlan for one that is not safe."""
    if not is_safe(program, plan):
        raise UnsafePlan("some run reads a released cell")


def lacking_answers(program, plan, capacity):
    """Tells answers with which a machine of a capacity lacks an address, or None."""
    check_safe(program, plan)
    # The cell that is made while all addresses are taken is one more than these.
    return answers_with(program, plan, capacity + 1)
