"""The errors of Laterknown.

Each class keeps its arguments itself: all of them derive directly from LaterError.
"""


class LaterError(ValueError):
    """What all errors of Laterknown derive from."""


class BadRecord(LaterError):
    """A name of a record is none, or there are too many."""

    def __init__(self, value):
        self.value = value


class NoField(LaterError):
    """A record has no part of this name."""

    def __init__(self, value):
        self.value = value


class BadKinds(LaterError):
    """The text of kinds is wrong, first in this line."""

    def __init__(self, value):
        self.value = value


class NoKind(LaterError):
    """There is no kind of this name."""

    def __init__(self, value):
        self.value = value


class BadProgram(LaterError):
    """The text of a program has a line of no form, or out of its place."""

    def __init__(self, value):
        self.value = value


class Doubled(LaterError):
    """A line of a program gives a name that is given already."""

    def __init__(self, value):
        self.value = value


class Unnamed(LaterError):
    """A line of a program names what there is not."""

    def __init__(self, value):
        self.value = value


class RingOfNames(LaterError):
    """The nodes of a program lead in a ring."""

    def __init__(self, value):
        self.value = value


class NoAddress(LaterError):
    """There is nothing at this address."""

    def __init__(self, value):
        self.value = value


class Unsettled(LaterError):
    """A row is still under way."""

    def __init__(self, value):
        self.value = value


class Ring(LaterError):
    """The rules of order have a ring of steps."""

    def __init__(self, value):
        self.value = value


class Stuck(LaterError):
    """Something waits, and no step can be taken."""

    def __init__(self, value):
        self.value = value


class NotWaiting(LaterError):
    """This does not wait."""

    def __init__(self, value):
        self.value = value


class Refused(LaterError):
    """The world refuses a request."""

    def __init__(self, value):
        self.value = value


class NoThing(LaterError):
    """The world has no thing of this number."""

    def __init__(self, value):
        self.value = value


class Taken(LaterError):
    """A name or an address is taken."""

    def __init__(self, value):
        self.value = value


class Stale(LaterError):
    """A plan is not the plan of now."""

    def __init__(self, value):
        self.value = value


class Denied(LaterError):
    """A rule denies what a plan does with this address."""

    def __init__(self, value):
        self.value = value


class NoRow(LaterError):
    """There is no such row under way."""

    def __init__(self, value):
        self.value = value


class NoCandidate(LaterError):
    """The thing of this number is no candidate."""

    def __init__(self, value):
        self.value = value


class NoLeft(LaterError):
    """No thing of this number is left."""

    def __init__(self, value):
        self.value = value


class Recorded(LaterError):
    """The thing of this number is recorded already."""

    def __init__(self, value):
        self.value = value


class NoBlock(LaterError):
    """The root of a program has no such block."""

    def __init__(self, value):
        self.value = value


class BadName(LaterError):
    """This is no name."""

    def __init__(self, value):
        self.value = value


class NotSingle(LaterError):
    """The block of this name has count or each."""

    def __init__(self, value):
        self.value = value


class Loud(LaterError):
    """A refactoring would not be quiet."""

    def __init__(self, value):
        self.value = value


class BadText(LaterError):
    """The text of a state has a line that is not so written."""

    def __init__(self, value):
        self.value = value


class BadLine(LaterError):
    """A line for the desk is of no form."""

    def __init__(self, value):
        self.value = value


class Faulty(LaterError):
    """Something has a fault under all rows: its name and the word of the fault."""

    def __init__(self, value, word):
        self.value = value
        self.word = word


class Unsure(LaterError):
    """A row under way has candidates: its address and these."""

    def __init__(self, value, found):
        self.value = value
        self.found = found


class NothingToUndo(LaterError):
    """There is nothing that could be taken back."""


class NoProgram(LaterError):
    """Nothing was wished yet."""


class NoRoom(LaterError):
    """The program would be too large."""
