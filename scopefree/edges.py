"""The edges that lead from point to point."""


def edges_of(lines, statements, layout):
    """Tells all edges of a program, in order."""
    found = []
    for at, line in enumerate(lines):
        found.extend(edges_from(at, line, statements[at][0], layout))
    return tuple(found)


def edges_from(at, line, word, layout):
    """Tells the edges from the point ahead of a line, the one for yes first."""
    if word == "if":
        return branch_edges(at, layout)
    if word == "while":
        body = layout.begun[at]
        return [(at, f"enter {body}", at + 1), (at, "pass", layout.ends[body] + 1)]
    if word == "block":
        return [(at, f"enter {layout.begun[at]}", at + 1)]
    if word == "else":
        second = layout.begun[at]
        return [(at, f"leave {layout.ended[at]}", layout.ends[second] + 1)]
    if word == "end":
        return [end_edge(at, layout)]
    return [(at, line, at + 1)]


def branch_edges(at, layout):
    """Tells the edges into both parts of the branch that a line begins."""
    first = layout.begun[at]
    turn = layout.ends[first]
    second = layout.begun[turn]
    return [(at, f"enter {first}", at + 1), (at, f"enter {second}", turn + 1)]


def end_edge(at, layout):
    """Tells the edge out of the scope that a line ends; the body of a loop leads back."""
    scope = layout.ended[at]
    if layout.kinds[scope] == "while":
        return (at, f"leave {scope}", layout.starts[scope])
    return (at, f"leave {scope}", at + 1)


def followers_of(edges, many):
    """Tells for each of so many points the points to which edges lead from it."""
    found = [[] for _ in range(many)]
    for start, _, stop in edges:
        found[start].append(stop)
    return tuple([tuple(stops) for stops in found])
