"""A run as it goes, step by step."""

# The places of the parts in a cell (site, first, second).
CELL_PARTS = {"head": 1, "tail": 2}


class Walk:
    """A run as far as it has come.

    Step k leads from points[k] to points[k + 1]. held leads from a variable to its value. made
    has for each cell the step that made it. reads has (step, cell, low) for each read; the first
    of them, as many as earlier tells, came ahead of the last answer. latest has for each depth the
    place in points of the last one that has it, or -1: lows are told from this, so that no step
    has to visit all cells.
    """

    def __init__(self, program):
        self.program = program
        self.site_at = {line: site for site, line in enumerate(program.sites)}
        self.points = [0]
        self.held = {name: 0 for name in program.variables}
        self.printed = []
        self.cells = []
        self.made = []
        self.reads = []
        self.earlier = 0
        self.latest = [0] + [-1] * max(program.depths)

    def onward(self):
        """Tells the points to which edges lead from the last point, the one for yes first."""
        return self.program.followers[self.points[-1]]

    def finished(self):
        """Tells if the run is at the end of the program."""
        return len(self.onward()) == 0

    def follow(self):
        """Goes on to the next question or the end."""
        while len(self.onward()) == 1:
            self.step(self.onward()[0])

    def answer(self, yes):
        """Answers the question at the last point, and goes on to the next one or the end."""
        self.earlier = len(self.reads)
        first, second = self.onward()
        self.step(first if yes else second)
        self.follow()

    def branch(self, yes):
        """Tells another walk that has come as far and then answers; this one stays as it is."""
        other = Walk(self.program)
        other.points = list(self.points)
        other.held = dict(self.held)
        other.printed = list(self.printed)
        other.cells = list(self.cells)
        other.made = list(self.made)
        other.reads = list(self.reads)
        other.latest = list(self.latest)
        other.answer(yes)
        return other

    def step(self, target):
        """Does what the line at the last point says, and goes to a point behind it."""
        self.do(self.program.statements[self.points[-1]])
        self.latest[self.program.depths[target]] = len(self.points)
        self.points.append(target)

    def do(self, statement):
        """Does what a line says to the variables, the cells and the prints."""
        word = statement[0]
        if word == "number":
            self.held[statement[1]] = statement[2]
        elif word == "copy":
            self.held[statement[1]] = self.held[statement[2]]
        elif word == "pair":
            self.held[statement[1]] = self.make(self.held[statement[2]], self.held[statement[3]])
        elif word in CELL_PARTS:
            self.held[statement[1]] = self.part(self.held[statement[2]], CELL_PARTS[word])
        elif word == "print":
            value = self.held[statement[1]]
            self.printed.append("pair" if is_cell(value) else value)

    def make(self, first, second):
        """Makes a cell of the site at the last point, and tells it as a value."""
        self.cells.append((self.site_at[self.points[-1]], first, second))
        self.made.append(len(self.points) - 1)
        return ("cell", len(self.cells) - 1)

    def part(self, value, place):
        """Reads a part of the cell that a value is; a number stays as it is."""
        if not is_cell(value):
            return value
        cell = value[1]
        self.reads.append((len(self.points) - 1, cell, self.low(cell)))
        return self.cells[cell][place]

    def low(self, cell):
        """Tells the least depth of the points at which the run has been since a cell was made."""
        depth = 0
        while self.latest[depth] <= self.made[cell]:
            depth += 1
        return depth


def is_cell(value):
    """Tells if a value is a cell, and no number."""
    return isinstance(value, tuple)


def begun(program):
    """Tells the walk that has come to the first question or the end."""
    walk = Walk(program)
    walk.follow()
    return walk


def walked(program, answers):
    """Tells the walk of the run that is given by answers."""
    walk = begun(program)
    for yes in answers:
        if walk.finished():
            break
        walk.answer(yes)
    return walk
