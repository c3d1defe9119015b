"""Plans: which scope releases the cells of each site, and which plans are safe on all runs."""

from scopefree.errors import ScopeError
from scopefree.lives import farthest_plan
from scopefree.reads import first_answers, possible_reads


class BadPlan(ScopeError):
    """Numbers are no plan: the first site with a wrong one, or None if they are not as many."""

    def __init__(self, site):
        super().__init__(f"not a plan: site {site}")
        self.site = site


def check_plan(program, plan):
    """Raises BadPlan for what is not one scope around each site."""
    if len(plan) != len(program.sites):
        raise BadPlan(None)
    for site, scope in enumerate(plan):
        if scope not in program.site_scopes[site]:
            raise BadPlan(site)


def least_plan(program):
    """Tells for each site the scope farthest inside with which no run reads a released cell."""
    return farthest_plan(program, [(site, low) for site, _, low in possible_reads(program)])


def unsafe_sites(program, plan):
    """Tells the sites of which some run reads a released cell, ascending."""
    check_plan(program, plan)
    return sites_beyond(program, plan, least_plan(program))


def sites_beyond(program, plan, least):
    """Tells the sites that one plan gives a scope farther inside than another plan, ascending."""
    depths = program.scope_depths
    sites = range(len(program.sites))
    return tuple([site for site in sites if depths[plan[site]] > depths[least[site]]])


def is_safe(program, plan):
    """Tells if no run reads a released cell."""
    return len(unsafe_sites(program, plan)) == 0


def mended(program, plan):
    """Tells the plan with the scope of the least plan for each unsafe site."""
    check_plan(program, plan)
    return drawn_back(program, plan, least_plan(program))


def drawn_back(program, plan, least):
    """Tells a plan that has the scopes of another one where its own are farther inside."""
    beyond = sites_beyond(program, plan, least)
    return tuple([least[site] if site in beyond else scope for site, scope in enumerate(plan)])


def safe_plan_count(program):
    """Tells how many plans are safe."""
    count = 1
    for scope in least_plan(program):
        # Around a site there is one scope of each depth from that of the least plan down to 0.
        count = count * (program.scope_depths[scope] + 1)
    return count


def find_fault(program, plan, limit):
    """Tells the first answers, of at most so many, with which a run reads a released cell."""
    check_plan(program, plan)
    deepest = [program.scope_depths[scope] for scope in plan]
    return first_answers(program, limit, lambda read: read[2] < deepest[read[0]])
