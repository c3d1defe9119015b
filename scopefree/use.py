"""Cells in use: how many there are under a plan along a run, and at most over all runs."""

from scopefree.levels import first_level, next_level, spread
from scopefree.plans import check_plan
from scopefree.scopes import loops_around, reached
from scopefree.walks import walked


def use_of_run(program, plan, answers):
    """Tells how many cells are in use at the beginning of a run and after each of its steps."""
    check_plan(program, plan)
    return tuple(counts_along(program, plan, walked(program, answers).points))


def counts_along(program, plan, points):
    """Tells how many cells are in use at each point of a run."""
    planned = {line: program.scope_depths[plan[site]] for site, line in enumerate(program.sites)}
    # How many cells in use have a planned scope of each depth; these scopes are all open.
    shares = [0] * (max(program.depths) + 1)
    counts = [0]
    for at, point in enumerate(points[1:]):
        start = points[at]
        if start in planned:
            shares[planned[start]] += 1
        depth = program.depths[point]
        # Only a step that leaves a scope leads to a lesser depth.
        if depth < program.depths[start]:
            shares[depth + 1] = 0
        counts.append(sum(shares))
    return counts


def growing_sites(program, plan):
    """Tells the sites that grow under a plan, ascending."""
    check_plan(program, plan)
    sites = range(len(program.sites))
    return tuple([site for site in sites if len(loops_within(program, plan, site)) > 0])


def loops_within(program, plan, site):
    """Tells the bodies around a site of loops that lie in its planned scope, innermost first."""
    depths = program.scope_depths
    floor = depths[plan[site]]
    return [body for body in loops_around(program, site) if depths[body] > floor]


def greatest_use(program, plan):
    """Tells the greatest number of cells in use at once on any run, or None."""
    if len(growing_sites(program, plan)) > 0:
        return None
    return max(greatest_uses(program, plan))


def greatest_uses(program, plan):
    """Tells for each point the greatest number of cells in use on any run there, or None."""
    check_plan(program, plan)
    most = [0] * len(program.depths)
    level = first_level(program)
    # Where a site can have two cells in use at once there is no greatest use; elsewhere no more
    # cells are in use than there are sites.
    for many in range(1, len(program.sites) + 1):
        level = next_level(program, plan, level)
        for points in level.values():
            for point in points:
                most[point] = many
    for point in points_without_greatest(program, plan):
        most[point] = None
    return tuple(most)


def points_without_greatest(program, plan):
    """Tells the points at which there is no greatest use, as keys."""
    found = {}
    for site in growing_sites(program, plan):
        # The question of a loop and a site in it are reached from each other in its scope.
        floor = program.scope_depths[plan[site]]
        for point in reached(program.followers, program.depths, program.sites[site], floor):
            found[point] = True
    return found


def answers_with(program, plan, many):
    """Tells answers with which a run has at least so many cells in use at some moment, or None."""
    growing = growing_sites(program, plan)
    if len(growing) > 0:
        answers = answers_of_growth(program, plan, growing[0], many)
    else:
        answers = answers_of_level(program, plan, many)
    if answers is None:
        return None
    return answers_until(program, plan, answers, many)


def answers_of_growth(program, plan, site, many):
    """Tells answers with which a run makes so many cells of a growing site that all stay in use."""
    line = program.sites[site]
    floor = program.scope_depths[plan[site]]
    ahead = spread(program, {0: ()}, 0)[line]
    again = spread(program, {line + 1: ()}, floor)[line]
    return ahead + again * (many - 1)


def answers_of_level(program, plan, many):
    """Tells answers with which so many cells are in use if no site grows, or None."""
    level = first_level(program)
    for _ in range(many):
        level = next_level(program, plan, level)
        if len(level) == 0:
            return None
    # Wherever the level leads, so many cells are in use there.
    points = level[min(level)]
    return points[min(points)]


def answers_until(program, plan, answers, many):
    """Tells those of answers that are used up when so many cells are in use for the first time."""
    # Cells that a level or the growth did not count are in use, too, so that fewer may do.
    points = walked(program, answers).points
    used = 0
    for point, count in zip(points, counts_along(program, plan, points)):
        if count >= many:
            break
        if len(program.followers[point]) > 1:
            used += 1
    return answers[:used]
