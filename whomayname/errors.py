"""The errors that the other modules raise."""


class AccessError(ValueError):
    """A refused call: `what` is the thing it fails at, `row` the row of a program, or None."""

    def __init__(self, what, row=None):
        name = self.__class__.__name__
        ValueError.__init__(self, _wording(name, what, row))
        self.what = what
        self.row = row


class Unknown(AccessError):
    """A package, class, mark, level or entry that is not there."""


class Taken(AccessError):
    """A name or level that is there already."""


class Sealed(AccessError):
    """A package that takes no later class."""


class Joined(AccessError):
    """A base that is, or has above it, a class that an earlier base is or has above it."""


class Misfit(AccessError):
    """A name that does not fit the way in which it is declared or used."""


class Narrow(AccessError):
    """A method that is declared again less widely than before."""


class Unlike(AccessError):
    """Two houses that differ in more than their levels and packages."""


class Shut(AccessError):
    """A level whose rule does not let a stance."""


class Barred(AccessError):
    """A mark that is not let; `why` is the pair (level, stance)."""

    def __init__(self, what, row=None, why=None):
        AccessError.__init__(self, what, row)
        self.why = why


def bar(mark, level, stance, row=None):
    """Raise Barred(mark) from Shut(level)."""
    raise Barred(mark, row, (level, stance)) from Shut(level, row)


def _wording(name, what, row):
    if row is None:
        return f"{name}: {what!r}"
    return f"row {row}: {name}: {what!r}"
