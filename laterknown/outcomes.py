"""Outcomes: how all addresses stand under one row of answers."""

from laterknown.errors import NoAddress
from laterknown.surveys import case_of_row


class Outcome:
    """The actions, the fields and the faults of all addresses under one row.

    The table has for each address its action, its fields, the word of its fault, whether it is strict, and
    whether it leans.
    """

    def __init__(self, table, blocked):
        self._table = table
        self._blocked = blocked

    @property
    def addresses(self):
        """The addresses that are wished or in the state, ascending."""
        return tuple(sorted(list(self._table)))

    @property
    def blocked(self):
        """The blocks whose count or keys cannot be evaluated, ascending."""
        return self._blocked

    def _told_of(self, address):
        if address not in self:
            raise NoAddress(address)
        return self._table[address]

    def __getitem__(self, at):
        return self._told_of(at)[0]

    def __iter__(self):
        raise TypeError("an outcome is asked for its addresses")

    def __contains__(self, x):
        # What is no string may have no hash, so it is never looked up.
        return isinstance(x, str) and x in self._table

    def __len__(self):
        return len(self._table)

    def __eq__(self, other):
        return isinstance(other, Outcome) and self._table == other._table and self._blocked == other._blocked

    def fields_of(self, address):
        """The fields of an address, None if it is not wished or has the fault evaluate."""
        return self._told_of(address)[1]

    def fault_of(self, address):
        """The word of the fault of an address, None if it has none."""
        return self._told_of(address)[2]

    def is_strict(self, address):
        """Whether the old thing of an address must go ahead of the new one."""
        return self._told_of(address)[3]

    def leans(self, address):
        """Whether an address cannot be changed ahead of what is made behind it."""
        return self._told_of(address)[4]


def outcome_in(case):
    """The outcome in a case."""
    table = {}
    for address, standing in case.standings.items():
        table[address] = (standing.deed, standing.given, standing.word, standing.strict, standing.leaning)
    blocked = [written for written, shape in case.shapes.items() if shape.is_blocked]
    return Outcome(table, tuple(sorted(blocked)))


def outcome(program, state, row=()):
    """The outcome of a program and a state under a row of answers."""
    return outcome_in(case_of_row(program, state, dict(row)))
