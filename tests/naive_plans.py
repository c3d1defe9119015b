"""Plans, cells in use and machines, told again as slowly and plainly as parts F to H word them."""

import itertools
import random

from tests.naive import NaiveRun, around, rows_of_answers, sites


def all_plans(plain):
    return itertools.product(*[around(plain, site) for site in range(len(sites(plain)))])


def plan_count(plain):
    count = 1
    for site in range(len(sites(plain))):
        count *= len(around(plain, site))
    return count


def innermost(plain):
    return tuple(around(plain, site)[0] for site in range(len(sites(plain))))


def some_plans(plain, many, seed=0):
    """All plans, if they are not too many; else so many, with the innermost and outermost ones."""
    if plan_count(plain) <= many:
        return list(all_plans(plain))
    chance = random.Random(seed)
    choices = [around(plain, site) for site in range(len(sites(plain)))]
    found = [innermost(plain), (0,) * len(choices)]
    while len(found) < many:
        found.append(tuple(chance.choice(scopes) for scopes in choices))
    return found


def planned_depths(plain, plan):
    return [plain.scope_depths[scope] for scope in plan]


def goes_no_farther_in(plain, plan, other):
    pairs = zip(planned_depths(plain, plan), planned_depths(plain, other))
    return all(depth <= limit for depth, limit in pairs)


class Moment:
    """A run at a point: which cells are in use, what variables have, how many prints and cells."""

    def __init__(self, run):
        self.point = run.points[-1]
        self.in_use = frozenset(run.in_use)
        self.values = dict(run.values)
        self.printed = len(run.printed)
        self.made = len(run.cells)


class NaivePlanned(NaiveRun):
    """A run under a plan; moments has one for the beginning and one behind each step."""

    def __init__(self, plain, plan, answers):
        self.plan = plan
        self.in_use = set()
        self.moments = []
        self.labels = {(start, stop): label for start, label, stop in plain.edges}
        super().__init__(plain, answers)

    def go(self):
        if not self.moments:
            self.moments.append(Moment(self))
        made = len(self.cells)
        if not super().go():
            return False
        if len(self.cells) > made:
            self.in_use.add(made)
        start, stop = self.points[-2:]
        if self.labels[(start, stop)].startswith("leave "):
            depths = self.plain.scope_depths
            deeper = {
                cell for cell in self.in_use
                if depths[self.plan[self.cells[cell][0]]] > self.plain.depths[stop]
            }
            self.in_use -= deeper
        self.moments.append(Moment(self))
        return True

    def counts(self):
        return tuple(len(moment.in_use) for moment in self.moments)

    def not_released(self):
        """The cells whose low is not less than the depth of their planned scope: see [F1]."""
        depths = planned_depths(self.plain, self.plan)
        return {at for at, cell in enumerate(self.cells) if self.lows[at] >= depths[cell[0]]}


def naive_fault(plain, plan, limit):
    for answers in rows_of_answers(limit):
        if NaiveRun(plain, answers).released(plan):
            return answers
    return None


def naive_uses(plain, plan):
    """The greatest use at each point, found by going through all ways, with how many cells of each
    site are in use. As soon as there are two of a site, there can be any number of them."""
    lines = sites(plain)
    depths = planned_depths(plain, plan)
    begin = (0, (0,) * len(lines))
    seen = {begin}
    waiting = [begin]
    while waiting:
        at, counts = waiting.pop()
        for start, label, stop in plain.edges:
            if start == at:
                following = list(counts)
                if at in lines:
                    following[lines.index(at)] = min(2, counts[lines.index(at)] + 1)
                if label.startswith("leave "):
                    for site, depth in enumerate(depths):
                        if depth > plain.depths[stop]:
                            following[site] = 0
                state = (stop, tuple(following))
                if state not in seen:
                    seen.add(state)
                    waiting.append(state)
    told = []
    for point in range(len(plain.depths)):
        here = [counts for at, counts in seen if at == point]
        told.append(None if any(2 in counts for counts in here) else max(map(sum, here)))
    return tuple(told)


def loops_that_grow(plain, plan, site):
    """The bodies of the loops around a site that lie in its planned scope, the innermost first."""
    chain = around(plain, site)
    return [scope for scope in chain[:chain.index(plan[site])] if scope in plain.loops]


def naive_growing(plain, plan):
    return tuple(site for site in range(len(plan)) if loops_that_grow(plain, plan, site))


def scopes_open(plain, point):
    scope = plain.point_scopes[point]
    found = []
    while scope is not None:
        found.append(scope)
        scope = plain.parents[scope]
    return found


def points_without_greatest(plain, plan):
    """The points of which [G3] says that there is no greatest use."""
    found = set()
    for site in naive_growing(plain, plan):
        body = loops_that_grow(plain, plan, site)[-1]
        waiting = [start for start, label, _ in plain.edges if label == f"enter {body}"]
        seen = set(waiting)
        while waiting:
            at = waiting.pop()
            for start, _, stop in plain.edges:
                if start == at and stop not in seen and plan[site] in scopes_open(plain, stop):
                    seen.add(stop)
                    waiting.append(stop)
        found |= seen
    return found


def story(plain, plan, answers, capacity):
    """What a machine tells: (event, memory, taken, words) for each event, in order."""
    run = NaivePlanned(plain, plan, answers)
    questions = {start for start, _, _ in plain.edges
                 if len([edge for edge in plain.edges if edge[0] == start]) == 2}
    address = {}
    memory = [0] * (2 * capacity)
    told = []

    def word(value):
        return 2 * value if isinstance(value, int) else 2 * address[value[1]] + 1

    def tell(event, moment):
        taken = tuple(sorted(address[cell] for cell in moment.in_use))
        words = {name: word(value) for name, value in moment.values.items()}
        told.append((event, tuple(memory), taken, words))

    for at, moment in enumerate(run.moments):
        before = run.moments[at - 1] if at > 0 else moment
        if moment.made > before.made:
            used = {address[cell] for cell in before.in_use}
            free = [place for place in range(capacity) if place not in used]
            if not free:
                tell(("lack", before.point), before)
                return told
            address[before.made] = free[0]
            parts = run.cells[before.made][1:]
            memory[2 * free[0]:2 * free[0] + 2] = [word(part) for part in parts]
        if moment.printed > before.printed:
            tell(("print", run.printed[before.printed]), moment)
        if moment.point in questions:
            tell(("ask", moment.point), moment)
        if moment.point == len(plain.lines):
            tell(("end", len(moment.in_use)), moment)
    return told
