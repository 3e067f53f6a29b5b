"""The errors of the package, one class for each kind of failure.

A field in which any value can come is a copy of it: the caller may change a list later.
"""

from callsover.kinds import copied


class NoBase(ValueError):
    """The value is not a base."""

    def __init__(self, base):
        self.base = copied(base)


class NoText(ValueError):
    """The string writes no text; the row is the first that is wrong."""

    def __init__(self, row):
        self.row = row


class NoRows(ValueError):
    """The value is not a text for the base."""


class NoStand(ValueError):
    """The value is not a stand of the text."""


class NoName(ValueError):
    """The value is not a name."""

    def __init__(self, name):
        self.name = copied(name)


class NoNumber(ValueError):
    """The value is not a number of the base."""

    def __init__(self, number):
        self.number = copied(number)


class NoHistory(ValueError):
    """The value is not a history; the entry at this index is the first that is wrong."""

    def __init__(self, at):
        self.at = at


class NoCommand(ValueError):
    """The value is none of the commands."""


class NoPart(KeyError):
    """No part of this name has a text."""

    def __init__(self, name):
        self.name = copied(name)


class NoRun(KeyError):
    """No run with this number ever began."""

    def __init__(self, run):
        self.run = copied(run)


class NoBranch(IndexError):
    """The entry of a path at this index is not a branch of the deed there."""

    def __init__(self, at):
        self.at = at


class NoCell(IndexError):
    """The value is not a cell."""

    def __init__(self, cell):
        self.cell = copied(cell)


class NoDepth(IndexError):
    """No open call of the run has this depth."""

    def __init__(self, depth):
        self.depth = copied(depth)


class NoAnswer(LookupError):
    """The run asks, and no answer was given."""

    def __init__(self, run):
        self.run = run


class NotAsked(RuntimeError):
    """An answer was given to a run that does not ask."""

    def __init__(self, run):
        self.run = run


class Over(RuntimeError):
    """The run is over."""

    def __init__(self, run):
        self.run = run
