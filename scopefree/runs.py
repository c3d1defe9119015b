"""Runs: what a program does with given answers."""

from scopefree.walks import is_cell, walked


def run(program, answers):
    """Tells if a run finishes, what it prints, and its cells."""
    walk = walked(program, answers)
    return (walk.finished(), tuple(walk.printed), tuple(walk.cells))


def visited_points(program, answers):
    """Tells the points of a run, in order."""
    return tuple(walked(program, answers).points)


def final_values(program, answers):
    """Tells each variable with its value at the end of a run."""
    walk = walked(program, answers)
    return tuple([(name, walk.held[name]) for name in program.variables])


def reachable_cells(program, answers):
    """Tells the numbers of the cells that are reachable at the end of a run, ascending."""
    walk = walked(program, answers)
    seen = {}
    mark(seen, list(walk.held.values()))
    # The parts of a cell were made before it, so that one look at each cell, the last one first,
    # comes to all.
    for cell in reversed(range(len(walk.cells))):
        if cell in seen:
            mark(seen, walk.cells[cell][1:])
    return tuple(sorted(seen))


def mark(seen, values):
    """Adds the numbers of those values that are cells as keys."""
    for value in values:
        if is_cell(value):
            seen[value[1]] = True
