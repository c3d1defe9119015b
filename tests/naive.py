"""Runs, and the ways over all runs, told again as slowly and plainly as the document words them.

What lines say is read from their letters, and edges come from tests.small, so that nothing here
leans on the package but for the limits of programs.
"""

import itertools
import random

from tests.small import Plain

KINDS = (
    "{0} = [{1}, {2}]", "{0} = [{1}, {2}]", "{0} = [{1}, {2}]", "{0} = {1}.head", "{0} = {1}.head",
    "{0} = {1}.tail", "{0} = {1}.tail", "{0} = {1}", "{0} = {3}", "print {0}",
)


def random_line(chance, names):
    """A line that is no scope's."""
    some = [chance.choice(names) for _ in range(3)]
    return chance.choice(KINDS).format(*some, chance.randrange(1000))


def random_tree(chance, many, names, depth=0):
    """A tree of exactly so many lines, as in tests.small."""
    items = []
    while many > 0:
        kind = chance.choice(("line", "line", "line", "line", "block", "while", "while", "if"))
        least = {"line": 1, "block": 2, "while": 2, "if": 3}[kind]
        if many < least or (kind != "line" and depth == 5):
            continue
        inner = chance.randrange(many - least + 1) if kind != "line" else 0
        many -= least + inner
        if kind == "line":
            items.append(("line", random_line(chance, names)))
        elif kind == "if":
            first = chance.randrange(inner + 1)
            parts = [random_tree(chance, size, names, depth + 1) for size in (first, inner - first)]
            items.append(("if", *parts))
        else:
            items.append((kind, random_tree(chance, inner, names, depth + 1)))
    return tuple(items)


def random_programs(seed, count, many, names):
    """So many programs of so many lines, as Plain; always the same ones for a seed."""
    chance = random.Random(seed)
    return [Plain(random_tree(chance, many, names)) for _ in range(count)]


def variables(plain):
    words = " ".join(plain.lines).translate({ord(sign): " " for sign in "[],.={}?"}).split()
    return "".join(sorted({word for word in words if len(word) == 1 and word.isalpha()}))


def sites(plain):
    return [at for at, line in enumerate(plain.lines) if "[" in line]


def around(plain, site):
    """The scopes around a site, the innermost one first."""
    scope = plain.point_scopes[sites(plain)[site]]
    found = []
    while scope is not None:
        found.append(scope)
        scope = plain.parents[scope]
    return found


def is_number(value):
    return isinstance(value, int)


class NaiveRun:
    """A run; each step takes the depth behind it, and the scope it leaves, to all cells there are."""

    def __init__(self, plain, answers):
        self.plain = plain
        self.left = list(answers)
        self.values = {name: 0 for name in variables(plain)}
        self.points = [0]
        self.printed = []
        self.cells = []
        self.lows = []
        self.made = []
        self.reads = []
        self.read_steps = {}
        self.ended = []
        self.read_after = set()
        self.leads = [[edge[1:] for edge in plain.edges if edge[0] == at]
                      for at in range(len(plain.depths))]
        while self.go():
            pass
        self.finished = self.points[-1] == len(plain.lines)

    def go(self):
        at = self.points[-1]
        leads = self.leads[at]
        if not leads or (len(leads) == 2 and not self.left):
            return False
        label, target = leads[0] if len(leads) == 1 or self.left.pop(0) else leads[1]
        self.do(self.plain.lines[at])
        if label.startswith("leave "):
            for scopes in self.ended:
                scopes.add(int(label[6:]))
        depth = self.plain.depths[target]
        self.lows = [depth if low is None else min(low, depth) for low in self.lows]
        self.points.append(target)
        return True

    def do(self, line):
        if line.startswith("print "):
            value = self.values[line[6]]
            self.printed.append(value if is_number(value) else "pair")
        elif " = " in line:
            self.values[line[0]] = self.worth(line[4:])

    def worth(self, text):
        if text.isdigit():
            return int(text)
        if text.startswith("["):
            site = sites(self.plain).index(self.points[-1])
            self.cells.append((site, self.values[text[1]], self.values[text[4]]))
            self.lows.append(None)
            self.ended.append(set())
            self.made.append(len(self.points) - 1)
            return ("cell", len(self.cells) - 1)
        value = self.values[text[0]]
        if len(text) == 1 or is_number(value):
            return value
        cell = value[1]
        self.reads.append((cell, self.cells[cell][0], self.points[-1], self.lows[cell]))
        self.read_steps[cell] = len(self.points) - 1
        self.read_after |= {(self.cells[cell][0], scope) for scope in self.ended[cell]}
        return self.cells[cell][1 if text.endswith(".head") else 2]

    def reachable(self):
        found = set()
        waiting = list(self.values.values())
        while waiting:
            value = waiting.pop()
            if not is_number(value) and value[1] not in found:
                found.add(value[1])
                waiting.extend(self.cells[value[1]][1:])
        return tuple(sorted(found))

    def lives(self):
        told = []
        for cell, made in enumerate(self.made):
            site = self.cells[cell][0]
            lows = [read[3] for read in self.reads if read[0] == cell]
            told.append((site, made, self.read_steps.get(cell), self.deepest(site, lows)))
        return tuple(told)

    def plan(self):
        told = []
        for site in range(len(sites(self.plain))):
            lows = [read[3] for read in self.reads if read[1] == site]
            told.append(self.deepest(site, lows))
        return tuple(told)

    def deepest(self, site, lows):
        """The scope around a site with the greatest depth that is not greater than any low."""
        depths = self.plain.scope_depths
        fitting = [s for s in around(self.plain, site) if all(depths[s] <= low for low in lows)]
        return max(fitting, key=lambda scope: depths[scope])

    def released(self, plan):
        depths = self.plain.scope_depths
        return tuple(read for read in self.reads if read[3] < depths[plan[read[1]]])


def rows_of_answers(most):
    """All rows of at most so many answers, in their order."""
    for many in range(most + 1):
        yield from itertools.product((True, False), repeat=many)


def all_runs(plain, most):
    """What the runs with at most so many answers bring: (reads, ended).

    reads leads from each tuple (site, point, low) to the first answers that bring it; ended has
    (site, scope) for each read of a cell of the site after the scope has ended.
    """
    reads = {}
    ended = set()
    for answers in rows_of_answers(most):
        naive = NaiveRun(plain, answers)
        ended |= naive.read_after
        for read in naive.reads:
            reads.setdefault(read[1:], answers)
    return reads, ended


def rule_ways(plain):
    """All tuples (site, point, variable, low), by the rules of [E1] word for word."""
    lines = sites(plain)
    found = set()
    while True:
        fresh = set()
        for start, _, stop in plain.edges:
            line, depth = plain.lines[start], plain.depths[stop]
            name = line[0] if " = " in line else None
            text = line[4:] if name else ""
            here = [way for way in found if way[1] == start]
            fresh.update((s, stop, v, min(low, depth)) for s, _, v, low in here if v != name)
            if text.startswith("["):
                fresh.add((lines.index(start), stop, name, depth))
            if len(text) == 1 and text.isalpha():
                fresh.update((s, stop, name, min(low, depth)) for s, _, v, low in here if v == text)
            if text[1:] in (".head", ".tail"):
                at = 5 if text.endswith(".head") else 8
                for outer, _, v, low in here:
                    if v == text[0]:
                        part = plain.lines[lines[outer]][at]
                        fresh.update(
                            (s, stop, name, min(inner, low, depth))
                            for s, p, w, inner in found if p == lines[outer] and w == part
                        )
        if fresh <= found:
            return found
        found |= fresh


def rule_reads(plain, ways):
    """The tuples (site, point, low) of [E2], ascending."""
    found = set()
    for site, point, name, low in ways:
        line = plain.lines[point] if point < len(plain.lines) else ""
        if line[5:] in (".head", ".tail") and line[4] == name:
            found.add((site, point, low))
    return tuple(sorted(found))
