"""States: what is recorded of the things that there are."""

from laterknown.addresses import kind_of
from laterknown.errors import NoAddress


class Entry:
    """What is recorded of one thing."""

    def __init__(self, kind, number, fields, answers):
        self._kind = kind
        self._number = number
        self._fields = fields
        self._answers = answers

    @property
    def kind(self):
        """The name of the kind of the thing."""
        return self._kind

    @property
    def number(self):
        """The number of the thing in the world."""
        return self._number

    @property
    def fields(self):
        """The recorded fields."""
        return self._fields

    @property
    def answers(self):
        """The recorded answers."""
        return self._answers

    def __eq__(self, other):
        if not isinstance(other, Entry) or self._kind != other._kind or self._number != other._number:
            return False
        return self._fields == other._fields and self._answers == other._answers


class Row:
    """A request of which it is not known yet whether it took place."""

    def __init__(self, number, step, action, fields, since, until):
        self._number = number
        self._step = step
        self._action = action
        self._fields = fields
        self._since = since
        self._until = until

    @property
    def number(self):
        """The number of the row in its house."""
        return self._number

    @property
    def step(self):
        """The step that was requested."""
        return self._step

    @property
    def action(self):
        """The action of the address of the step, drop for a drop."""
        return self._action

    @property
    def fields(self):
        """The requested fields, None for a delete or a drop."""
        return self._fields

    @property
    def since(self):
        """The greatest number of a thing of the world when the request was sent."""
        return self._since

    @property
    def until(self):
        """The greatest number of a thing by which the request had come to its end, None if that is not known."""
        return self._until

    def __eq__(self, other):
        if not isinstance(other, Row) or self._number != other._number or self._step != other._step:
            return False
        if self._action != other._action or self._fields != other._fields:
            return False
        return self._since == other._since and self._until == other._until


class State:
    """The entries by their addresses, the left things, and the rows under way; empty at first."""

    def __init__(self):
        self._entries = {}
        self._left = ()
        self._rows = ()

    def renewed(self, entries, left, rows):
        """A state with this dict of entries, this tuple of left things and this tuple of rows under way."""
        made = State()
        made._entries = dict(entries)
        made._left = tuple(sorted(left, key=lambda pair: pair[1].number))
        made._rows = tuple(sorted(rows, key=lambda row: row.number))
        return made

    @property
    def addresses(self):
        """The addresses that have an entry, ascending."""
        return tuple(sorted(list(self._entries)))

    @property
    def left(self):
        """The left things, each with the address where it stood, by their numbers."""
        return self._left

    @property
    def under_way(self):
        """The rows under way, by their numbers."""
        return self._rows

    def __getitem__(self, at):
        if at not in self:
            raise NoAddress(at)
        return self._entries[at]

    def __iter__(self):
        raise TypeError("a state is asked for its addresses")

    def __contains__(self, x):
        # What is no string may have no hash, so it is never looked up.
        return isinstance(x, str) and x in self._entries

    def __len__(self):
        return len(self._entries)

    def __eq__(self, other):
        if not isinstance(other, State) or self._entries != other._entries:
            return False
        return self._left == other._left and self._rows == other._rows


def state_of(kinds, entries):
    """The state with these entries, each a tuple (address, number, fields, answers)."""
    table = {}
    for address, number, fields, answers in entries:
        table[address] = Entry(kind_of(address), number, fields, answers)
    return State().renewed(table, (), ())
