"""Lives of cells: how far out a run has been when it reads them, and the plan that fits it."""

from scopefree.walks import walked


def reads_of_run(program, answers):
    """Tells the cell, site, point and low of each read of a run, in order."""
    walk = walked(program, answers)
    told = []
    for step, cell, low in walk.reads:
        told.append((cell, walk.cells[cell][0], walk.points[step], low))
    return tuple(told)


def cell_lives(program, answers):
    """Tells the site of each cell, the steps that make it and last read it, and its scope."""
    walk = walked(program, answers)
    # The low of a cell never rises, so that the one at its last read is the least.
    last_reads = {cell: (step, low) for step, cell, low in walk.reads}
    told = []
    for cell, made in enumerate(walk.made):
        site = walk.cells[cell][0]
        step, low = last_reads.get(cell, (None, None))
        told.append((site, made, step, fitting_scope(program, site, low)))
    return tuple(told)


def fitting_scope(program, site, low):
    """Tells the scope farthest inside around a site whose depth a low allows; None allows all."""
    around = program.site_scopes[site]
    if low is None:
        return around[0]
    fitting = [scope for scope in around if program.scope_depths[scope] <= low]
    return fitting[0]


def plan_of_run(program, answers):
    """Tells for each site the scope farthest inside with which the run reads no released cell."""
    return farthest_plan(program, [(read[1], read[3]) for read in reads_of_run(program, answers)])


def farthest_plan(program, reads):
    """Tells the plan farthest inside with which no read (site, low) is one of a released cell."""
    least = {}
    for site, low in reads:
        least[site] = min(low, least.get(site, low))
    sites = range(len(program.sites))
    return tuple([fitting_scope(program, site, least.get(site)) for site in sites])


def released_reads(program, answers, plan):
    """Tells the reads of a run that read cells that a plan has released."""
    found = []
    for read in reads_of_run(program, answers):
        if read[3] < program.scope_depths[plan[read[1]]]:
            found.append(read)
    return tuple(found)
