"""A desk on which a plan is changed site by site."""

from scopefree.errors import ScopeError
from scopefree.plans import drawn_back, find_fault, least_plan, sites_beyond
from scopefree.reads import check_scope
from scopefree.scopes import check_site
from scopefree.use import greatest_use


class NothingLeft(ScopeError):
    """There is no change to take back, or none to do again."""


class Desk:
    """A program with a present plan; past and future have the plans of undo and redo, next last."""

    def __init__(self, program):
        self.program = program
        self.least = least_plan(program)
        self.present = (0,) * len(program.sites)
        self.past = []
        self.future = []

    def plan(self):
        """Tells the present plan."""
        return self.present

    def changes(self):
        """Tells how many changes can be taken back."""
        return len(self.past)

    def place(self, site, scope):
        """Gives a site a scope, and tells the sites that are unsafe then."""
        check_scope(self.program, site, scope)
        self.change(self.present[:site] + (scope,) + self.present[site + 1:])
        return self.unsafe_sites()

    def tighten(self, site):
        """Gives a site the scope of the least plan, and tells this scope."""
        check_site(self.program, site)
        scope = self.least[site]
        self.place(site, scope)
        return scope

    def mend(self):
        """Gives each unsafe site the scope of the least plan, and tells these sites."""
        unsafe = self.unsafe_sites()
        self.change(drawn_back(self.program, self.present, self.least))
        return unsafe

    def change(self, plan):
        """Makes a plan the present one; what was taken back can not be done again then."""
        self.past.append(self.present)
        self.future = []
        self.present = plan

    def undo(self):
        """Takes back the last change, and tells the present plan then."""
        if len(self.past) == 0:
            raise NothingLeft("there is no change to take back")
        self.future.append(self.present)
        self.present = self.past.pop()
        return self.present

    def redo(self):
        """Does the change again that was taken back last, and tells the present plan then."""
        if len(self.future) == 0:
            raise NothingLeft("there is no change to do again")
        self.past.append(self.present)
        self.present = self.future.pop()
        return self.present

    def unsafe_sites(self):
        """Tells the sites of which some run reads a released cell, ascending."""
        return sites_beyond(self.program, self.present, self.least)

    def fault(self, limit):
        """Tells the first answers, of at most so many, with which a run reads a released cell."""
        return find_fault(self.program, self.present, limit)

    def greatest_use(self):
        """Tells the greatest number of cells in use at once on any run, or None."""
        return greatest_use(self.program, self.present)
