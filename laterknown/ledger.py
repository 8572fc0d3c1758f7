"""What a house keeps: the program, what is recorded, what was wished before, and the world."""

from laterknown.addresses import kind_of
from laterknown.errors import NoAddress, NothingToUndo, Taken
from laterknown.recording import rows_at, with_addresses
from laterknown.states import State


def has_something(state, address):
    """Whether an address has an entry, a left thing or a row under way."""
    if address in state or rows_at(state, address):
        return True
    return any([place == address for place, _ in state.left])


def check_taken(state, pairs):
    """Raises Taken with the least new address to which the old one cannot be moved."""
    olds = [old for old, _ in pairs]
    taken = []
    for old, new in pairs:
        stands_there = new not in olds and (new in state or rows_at(state, new))
        if stands_there or kind_of(old) != kind_of(new):
            taken.append(new)
    if taken:
        raise Taken(min(taken))


def check_moves(state, pairs):
    """Raises NoAddress or Taken unless all old addresses can be moved to the new ones."""
    missing = [old for old, _ in pairs if not has_something(state, old)]
    if missing:
        raise NoAddress(min(missing))
    check_taken(state, pairs)


class Ledger:
    """The program that is wished, the recorded state, and the realm, which is the world.

    The past has a pair for each deed that can be taken back: the program before it, and the pairs of addresses
    that go back then. Numbers of rows are never given again.
    """

    def __init__(self, realm):
        self.realm = realm
        self.wished = None
        self.recorded = State()
        self.past = ()
        self.many_rows = 0

    def doubled(self):
        """A ledger of its own with a world of its own, as they are now."""
        made = Ledger(self.realm.copy())
        made.wished = self.wished
        made.recorded = self.recorded
        made.past = self.past
        made.many_rows = self.many_rows
        return made

    def next_row_number(self):
        """A number for a row that none had before."""
        self.many_rows += 1
        return self.many_rows

    def record(self, state):
        """Records this state."""
        self.recorded = state

    def keep_past(self, pairs):
        """Keeps what is needed to take back a deed with these pairs of addresses."""
        self.past = (*self.past, (self.wished, pairs))

    def wish_for(self, program):
        """Another program is wished for."""
        self.keep_past(())
        self.wished = program

    def move(self, pairs):
        """Moves addresses all at once."""
        check_moves(self.recorded, pairs)
        self.keep_past(pairs)
        self.recorded = with_addresses(self.recorded, dict(pairs))

    def refactor(self, program, pairs):
        """Another program, with its addresses moved as far as there is something to move."""
        moved = tuple([pair for pair in pairs if has_something(self.recorded, pair[0])])
        check_taken(self.recorded, moved)
        # All pairs go back one day, for something may be recorded at the other addresses until then.
        self.keep_past(pairs)
        self.wished = program
        self.recorded = with_addresses(self.recorded, dict(moved))

    def undo(self):
        """Takes back the last deed that was not taken back."""
        if not self.past:
            raise NothingToUndo()
        self.wished, pairs = self.past[-1]
        self.past = self.past[:-1]
        self.recorded = with_addresses(self.recorded, {new: old for old, new in pairs})
