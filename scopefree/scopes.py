"""Ways between points, and the scopes around sites and points."""

from scopefree.errors import ScopeError


class NoPoint(ScopeError):
    """A number is not that of a point."""


class NoSite(ScopeError):
    """A number is not that of a site."""


def answers_to(program, point):
    """Tells the first of all rows of answers by which a way from point 0 comes to a point."""
    check_point(program, point)
    found = {}
    row = [(0, ())]
    while point not in found:
        row = next_row(program, row, found)
    return found[point]


def next_row(program, row, found):
    """Goes on from points with their answers, and tells those with one more answer.

    The row is in the order of its answers, and so is the next one: the first answers that come
    to a point are the ones to keep, and a point that has some needs no second look.
    """
    following = []
    for start, answers in row:
        halt = walk(program, start, answers, found)
        if halt is not None:
            for other, yes in zip(program.followers[halt], (True, False)):
                following.append((other, answers + (yes,)))
    return following


def walk(program, start, answers, found):
    """Keeps the answers for the points up to the next question or the end, and tells this one.

    None if the way comes to a point that has answers already.
    """
    point = start
    while point not in found:
        found[point] = answers
        if len(program.followers[point]) != 1:
            return point
        point = program.followers[point][0]
    return None


def possible_lows(program, start, stop):
    """Tells the lows of all ways from a point to another one, ascending."""
    check_point(program, start)
    check_point(program, stop)
    depths = program.depths
    backward = leaders_of(program)
    lows = []
    for low in range(min(depths[start], depths[stop]) + 1):
        ahead = reached(program.followers, depths, start, low)
        behind = reached(backward, depths, stop, low)
        if any([depths[point] == low and point in behind for point in ahead]):
            lows.append(low)
    return tuple(lows)


def leaders_of(program):
    """Tells for each point the points from which edges lead to it."""
    found = [[] for _ in program.depths]
    for start, _, stop in program.edges:
        found[stop].append(start)
    return found


def reached(leads, depths, start, low):
    """Tells the points to which a way without a depth below low leads from a start, as keys."""
    seen = {start: True}
    waiting = [start]
    while waiting:
        point = waiting.pop()
        for other in leads[point]:
            if depths[other] >= low and other not in seen:
                seen[other] = True
                waiting.append(other)
    return seen


def loops_around(program, site):
    """Tells the bodies of loops around a site, the innermost one first."""
    check_site(program, site)
    return tuple([scope for scope in program.site_scopes[site] if scope in program.loops])


def common_scope(program, first, second):
    """Tells the innermost scope in which two points lie."""
    check_point(program, first)
    check_point(program, second)
    around = program.scopes_around(program.point_scopes[first])
    others = program.scopes_around(program.point_scopes[second])
    shared = [scope for scope in others if scope in around]
    return shared[0]


def check_point(program, point):
    """Raises NoPoint for a number that is not that of a point."""
    if not 0 <= point < len(program.depths):
        raise NoPoint(f"there is no point {point}")


def check_site(program, site):
    """Raises NoSite for a number that is not that of a site."""
    if not 0 <= site < len(program.sites):
        raise NoSite(f"there is no site {site}")
