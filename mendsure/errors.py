"""The refusals: each class stands straight under MendError, and under no other refusal."""


class MendError(ValueError):
    """Any refusal."""


class TooGreat(MendError):
    """There are more tables, rules or rows than a book may have."""


class NoText(MendError):
    """A text doesn't write what is asked for, or is no text."""


class NoPlace(MendError):
    """Nothing is there of the number that was told."""


class NotPlain(MendError):
    """The book has rules, and only plain books can be asked this."""


class NoTable(MendError):
    """What stands at a place among the tables is no table."""

    def __init__(self, place):
        MendError.__init__(self, f"no table at {place}")
        self.place = place


class NoRule(MendError):
    """What stands at a place among the rules is no rule."""

    def __init__(self, place):
        MendError.__init__(self, f"no rule at {place}")
        self.place = place


class NoRow(MendError):
    """What stands at a place among the rows is no row."""

    def __init__(self, place):
        MendError.__init__(self, f"no row at {place}")
        self.place = place


class Twice(MendError):
    """The row at a place is alike an earlier one."""

    def __init__(self, place):
        MendError.__init__(self, f"the row at {place} stands twice")
        self.place = place


class NoQuestion(MendError):
    """What was handed in makes no question."""

    def __init__(self, place):
        MendError.__init__(self, f"no question, at {place}")
        self.place = place


class Double(MendError):
    """The atom at a place has a table that an earlier atom has."""

    def __init__(self, place):
        MendError.__init__(self, f"the atom at {place} has an earlier atom's table")
        self.place = place


class TooWide(MendError):
    """More rows clash than the mended books can be gone through for."""

    def __init__(self, number):
        MendError.__init__(self, f"{number} rows clash")
        self.number = number


class Ring(MendError):
    """Some atoms of the question sway one another in a ring."""

    def __init__(self, ring):
        MendError.__init__(self, f"a ring of atoms: {ring}")
        self.ring = list(ring)
