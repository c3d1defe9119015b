"""The base of all errors of the package."""


class ScopeError(ValueError):
    """Something that the package was given does not hold."""
