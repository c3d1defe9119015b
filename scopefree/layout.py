"""How scopes begin and end, line by line."""

BEGINNERS = ("block", "if", "else", "while")
ENDERS = ("else", "end")


class Layout:
    """The scopes and points of the lines that it has taken so far.

    kinds, starts, ends, parents and depths have an item for each scope, point_scopes has one
    for each point; begun and ended lead from a line to the scope that it begins or ends.
    """

    def __init__(self):
        self.kinds = ["program"]
        self.starts = [None]
        self.ends = [None]
        self.parents = [None]
        self.depths = [0]
        self.point_scopes = [0]
        self.begun = {}
        self.ended = {}

    def innermost(self):
        """Tells the innermost scope at the last point."""
        return self.point_scopes[-1]

    def misfit(self, word):
        """Tells the reason why a line of this kind does not fit here, or None."""
        scope = self.innermost()
        if word == "else" and self.kinds[scope] != "if":
            return "no if"
        if word == "end" and scope == 0:
            return "no block"
        if word == "end" and self.kinds[scope] == "if":
            return "else"
        return None

    def take(self, word):
        """Takes a line of a kind that fits here."""
        line = len(self.point_scopes) - 1
        scope = self.innermost()
        if word in ENDERS:
            self.ends[scope] = line
            self.ended[line] = scope
            scope = self.parents[scope]
        if word in BEGINNERS:
            scope = self.begin(word, line, scope)
        self.point_scopes.append(scope)

    def begin(self, word, line, parent):
        """Adds a scope within another one, and tells its number."""
        scope = len(self.kinds)
        self.kinds.append(word)
        self.starts.append(line)
        self.ends.append(None)
        self.parents.append(parent)
        self.depths.append(self.depths[parent] + 1)
        self.begun[line] = scope
        return scope

    def line_depth(self, line):
        """Tells the depth of a line; one that ends a scope belongs around this scope."""
        if line in self.ended:
            return self.depths[self.parents[self.ended[line]]]
        return self.depths[self.point_scopes[line]]
