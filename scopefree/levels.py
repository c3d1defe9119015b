"""Levels: where runs can be with so many cells in use, and with which answers.

A level counts some of the cells that are in use. A run that keeps them goes to no depth less than
those of their planned scopes, all of which are open: the greatest of these depths is the floor of
its way. A level leads from a floor to a dict, and this one from the points that can be reached to
answers that lead there. The level of one cell more counts the next cell at a site.
"""


def first_level(program):
    """Tells the level that counts no cells."""
    return {0: spread(program, {0: ()}, 0)}


def next_level(program, plan, level):
    """Tells the level that counts one cell more under a plan; it is empty if no run has so many."""
    begun = {}
    for floor, reached in level.items():
        for site, line in enumerate(program.sites):
            if line in reached:
                depth = max(floor, program.scope_depths[plan[site]])
                begun.setdefault(depth, {}).setdefault(line + 1, reached[line])
    return {floor: spread(program, points, floor) for floor, points in begun.items()}


def spread(program, begun, floor):
    """Tells answers that lead to all points that can be reached without a depth below a floor.

    It goes on from points with answers. No way comes twice to one question, so that a way has at
    most as many answers as the program has questions.
    """
    found = dict(begun)
    row = list(begun)
    while row:
        following = []
        for point in row:
            for other, answers in moves(program, point, found[point]):
                if program.depths[other] >= floor and other not in found:
                    found[other] = answers
                    following.append(other)
        row = following
    return found


def moves(program, point, answers):
    """Tells the points to which edges lead from a point, each with the answers it takes."""
    followers = program.followers[point]
    if len(followers) < 2:
        return [(other, answers) for other in followers]
    first, second = followers
    return [(first, answers + (True,)), (second, answers + (False,))]
