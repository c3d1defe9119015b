"""All small programs, made from trees, with what part B says of them worked out from the tree.

A tree is a tuple of items: ("line", text), ("block", tree), ("while", tree), ("if", tree, tree).
Nothing here reads a program line by line, so that it can be held against the package.
"""

from scopefree.errors import ScopeError
from scopefree.programs import BadProgram, Program

LINE = "a = [b, b]"


def trees(many):
    """All trees of exactly so many lines."""
    if many == 0:
        return [()]
    found = []
    for size in range(1, many + 1):
        for item in items(size):
            for rest in trees(many - size):
                found.append((item,) + rest)
    return found


def items(size):
    if size == 1:
        return [("line", LINE)]
    found = [(word, body) for word in ("block", "while") for body in trees(size - 2)]
    for first in range(size - 2):
        for body in trees(first):
            for other in trees(size - 3 - first):
                found.append(("if", body, other))
    return found


class Plain:
    """The lines, points, scopes and edges of a tree."""

    def __init__(self, tree):
        self.lines = []
        self.line_depths = []
        self.point_scopes = []
        self.parents = [None]
        self.scope_depths = [0]
        self.loops = []
        self.edges = []
        self.put(tree, 0)
        self.point_scopes.append(0)
        self.edges.sort(key=lambda edge: edge[0])
        self.depths = [self.scope_depths[scope] for scope in self.point_scopes]

    def scope(self, parent):
        self.parents.append(parent)
        self.scope_depths.append(self.scope_depths[parent] + 1)
        return len(self.parents) - 1

    def line(self, text, scope, shown_in):
        self.lines.append(text)
        self.line_depths.append(self.scope_depths[shown_in])
        self.point_scopes.append(scope)
        return len(self.lines) - 1

    def put(self, tree, around):
        for item in tree:
            getattr(self, "put_" + item[0])(item, around)

    def put_line(self, item, around):
        at = self.line(item[1], around, around)
        self.edges.append((at, item[1], at + 1))

    def put_block(self, item, around):
        at = self.line("{", around, around)
        inner = self.scope(around)
        self.put(item[1], inner)
        end = self.line("}", inner, around)
        self.edges.append((at, "enter " + str(inner), at + 1))
        self.edges.append((end, "leave " + str(inner), end + 1))

    def put_while(self, item, around):
        at = self.line("while ? {", around, around)
        inner = self.scope(around)
        self.loops.append(inner)
        self.put(item[1], inner)
        end = self.line("}", inner, around)
        self.edges.append((at, "enter " + str(inner), at + 1))
        self.edges.append((at, "pass", end + 1))
        self.edges.append((end, "leave " + str(inner), at))

    def put_if(self, item, around):
        at = self.line("if ? {", around, around)
        first = self.scope(around)
        self.put(item[1], first)
        turn = self.line("} else {", first, around)
        second = self.scope(around)
        self.put(item[2], second)
        end = self.line("}", second, around)
        self.edges.append((at, "enter " + str(first), at + 1))
        self.edges.append((at, "enter " + str(second), turn + 1))
        self.edges.append((turn, "leave " + str(first), end + 1))
        self.edges.append((end, "leave " + str(second), end + 1))


def plain_programs(most):
    """All trees of at most so many lines that keep the bounds, as Plain."""
    found = [Plain(tree) for many in range(most + 1) for tree in trees(many)]
    return [plain for plain in found if max(plain.depths) <= 5]


def program_of(plain):
    return Program("\n".join(plain.lines))


def refusal(text):
    """(line, reason) of the BadProgram that a text raises; None if it is one of a program."""
    try:
        Program(text)
    except BadProgram as error:
        assert isinstance(error, ScopeError)
        return (error.line, error.reason)
    return None
