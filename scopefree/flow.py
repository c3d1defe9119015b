"""The ways over all runs: which cells a variable can have at a point, and with which lows.

The ways of a variable at a point are held as one number. With S sites its binary digit at the
place low * S + site tells if there is the way with this site and this low. So many ways are
joined at once, and large programs are answered soon.
"""

SETTERS = ("number", "copy", "pair", "head", "tail")
# The places of the variables that give the parts, in a statement ("pair", x, y, z).
PAIR_PARTS = {"head": 2, "tail": 3}


def ways_of(program):
    """Tells all ways, as a dict that leads from (point, variable) to their number."""
    found = {(point, name): 0 for point in range(len(program.depths)) for name in program.variables}
    grown = True
    while grown:
        grown = False
        for start, _, stop in program.edges:
            if carry(program, found, start, stop):
                grown = True
    return found


def carry(program, found, start, stop):
    """Adds the ways that an edge makes of those at its start, and tells if some are new."""
    grown = False
    for name in program.variables:
        ways = ways_behind(program, found, start, name)
        ways = lowered(ways, program.depths[stop], len(program.sites))
        joined = found[(stop, name)] | ways
        if joined != found[(stop, name)]:
            found[(stop, name)] = joined
            grown = True
    return grown


def ways_behind(program, found, start, name):
    """Tells the ways of a variable behind the line at a point, with the lows ahead of it."""
    statement = program.statements[start]
    word = statement[0]
    if word not in SETTERS or statement[1] != name:
        return found[(start, name)]
    if word == "pair":
        place = program.depths[start] * len(program.sites) + program.sites.index(start)
        return 1 << place
    if word == "copy":
        return found[(start, statement[2])]
    if word in PAIR_PARTS:
        return ways_of_part(program, found, found[(start, statement[2])], PAIR_PARTS[word])
    return 0


def ways_of_part(program, found, ways, part):
    """Tells the ways that one part of the cells of some ways has."""
    told = 0
    for site, low in pairs_of(ways, len(program.sites)):
        line = program.sites[site]
        name = program.statements[line][part]
        told |= lowered(found[(line, name)], low, len(program.sites))
    return told


def lowered(ways, depth, many):
    """Tells the ways, of so many sites, in which each low above a depth has become this depth."""
    places = (depth + 1) * many
    told = ways & ((1 << places) - 1)
    above = ways >> places
    while above > 0:
        told |= (above & ((1 << many) - 1)) << (depth * many)
        above >>= many
    return told


def pairs_of(ways, many):
    """Tells the pairs (site, low) of ways, of so many sites, ascending."""
    found = []
    left = ways
    while left > 0:
        place = left.bit_length() - 1
        left -= 1 << place
        low, site = divmod(place, many)
        found.append((site, low))
    return sorted(found)
