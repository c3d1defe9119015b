"""Reads over all runs, whatever the answers and however many."""

from scopefree.errors import ScopeError
from scopefree.flow import pairs_of, ways_of
from scopefree.scopes import check_site
from scopefree.walks import begun

READERS = ("head", "tail")


class NoScope(ScopeError):
    """A number is not that of a scope around a site."""


def check_scope(program, site, scope):
    """Raises NoSite if there is no such site, and NoScope for no scope around it."""
    check_site(program, site)
    if scope not in program.site_scopes[site]:
        raise NoScope(f"there is no scope {scope} around the site {site}")


def possible_reads(program):
    """Tells all reads (site, point, low), by sites, then by points, then by lows."""
    ways = ways_of(program)
    found = []
    for point, statement in enumerate(program.statements):
        if statement[0] in READERS:
            for site, low in pairs_of(ways[(point, statement[2])], len(program.sites)):
                found.append((site, point, low))
    return tuple(sorted(found))


def values_at(program, point, variable):
    """Tells the sites and lows of the cells that a variable can have at a point, ascending."""
    ways = ways_of(program).get((point, variable), 0)
    return tuple(pairs_of(ways, len(program.sites)))


def read_after(program, site, scope):
    """Tells if some run reads a cell of a site after a scope around it has ended."""
    check_scope(program, site, scope)
    # Whoever leaves a scope comes to a lesser depth, and there is no other way to one.
    depth = program.scope_depths[scope]
    return any([read[0] == site and read[2] < depth for read in possible_reads(program)])


def answers_for(program, read, limit):
    """Tells the first answers, of at most so many, with which a run has a read, or None."""
    wanted = tuple(read)
    return first_answers(program, limit, lambda told: told == wanted)


def first_answers(program, limit, fits):
    """Tells the first answers, of at most so many, with a read (site, point, low) that fits."""
    row = [((), begun(program))]
    for many in range(limit + 1):
        if many > 0:
            row = next_row(row)
        for answers, walk in row:
            if any([fits(told) for told in new_reads(walk)]):
                return answers
    return None


def next_row(row):
    """Tells the walks with one more answer, in their order; a finished one takes no more."""
    following = []
    for answers, walk in row:
        if not walk.finished():
            following.append((answers + (True,), walk.branch(True)))
            following.append((answers + (False,), walk.branch(False)))
    return following


def new_reads(walk):
    """Tells the reads of a walk behind its last answer, or all if it has no answers."""
    told = []
    for step, cell, low in walk.reads[walk.earlier:]:
        told.append((walk.cells[cell][0], walk.points[step], low))
    return told
