"""Programs: their lines, sites, points, edges and scopes."""

from scopefree.edges import edges_of, followers_of
from scopefree.errors import ScopeError
from scopefree.layout import Layout
from scopefree.statements import lines_of, statement_of, variables_of

MOST_CHARACTERS = 4000
MOST_LINES = 80
MOST_DEPTH = 5
MOST_VARIABLES = 6


class TooLong(ScopeError):
    """A text has more characters than a program may have."""


class BadProgram(ScopeError):
    """A text is not one of a program: the line, or None for the text as a whole, and why."""

    def __init__(self, line, reason):
        super().__init__(f"not a program: {reason}, line {line}")
        self.line = line
        self.reason = reason


class Program:
    """What a text of a program says."""

    def __init__(self, text):
        if len(text) > MOST_CHARACTERS:
            raise TooLong(f"more than {MOST_CHARACTERS} characters")
        self.lines = lines_of(text)
        self.statements = tuple([statement_of(line) for line in self.lines])
        layout = layout_of(self.statements)
        self.variables = variables_of(self.statements)
        check_limits(self.lines, layout.depths, self.variables)
        self.line_depths = tuple([layout.line_depth(at) for at in range(len(self.lines))])
        self.parents = tuple(layout.parents)
        self.scope_depths = tuple(layout.depths)
        self.loops = tuple([at for at, kind in enumerate(layout.kinds) if kind == "while"])
        self.point_scopes = tuple(layout.point_scopes)
        self.depths = tuple([self.scope_depths[scope] for scope in self.point_scopes])
        self.edges = edges_of(self.lines, self.statements, layout)
        self.followers = followers_of(self.edges, len(self.depths))
        self.sites = tuple([at for at, told in enumerate(self.statements) if told[0] == "pair"])
        self.site_scopes = tuple([self.scopes_around(self.point_scopes[at]) for at in self.sites])

    def text(self):
        """Tells the canonical text."""
        return "\n".join(["  " * depth + line for depth, line in zip(self.line_depths, self.lines)])

    def scopes_around(self, number):
        """Tells a scope and the scopes around it, to the scope 0."""
        around = []
        scope = number
        while scope is not None:
            around.append(scope)
            scope = self.parents[scope]
        return tuple(around)


def layout_of(statements):
    """Tells how statements are laid out; raises BadProgram for the first that does not fit."""
    layout = Layout()
    for at, statement in enumerate(statements):
        if statement is None:
            raise BadProgram(at, "statement")
        reason = layout.misfit(statement[0])
        if reason is not None:
            raise BadProgram(at, reason)
        layout.take(statement[0])
    if layout.innermost() != 0:
        raise BadProgram(layout.starts[layout.innermost()], "open")
    return layout


def check_limits(lines, depths, variables):
    """Raises BadProgram if there are more lines, depth or variables than a program may have."""
    if len(lines) > MOST_LINES:
        raise BadProgram(None, "lines")
    if max(depths) > MOST_DEPTH:
        raise BadProgram(None, "depth")
    if len(variables) > MOST_VARIABLES:
        raise BadProgram(None, "variables")
