"""How states are made from others: what is recorded, removed, and called by another address."""

from laterknown.states import Entry, Row, State


def entries_of(state):
    """The entries of a state by their addresses."""
    return {address: state[address] for address in state.addresses}


def recorded_numbers(state):
    """The numbers of the things that have an entry or are left."""
    found = {state[address].number: True for address in state.addresses}
    found.update({entry.number: True for _, entry in state.left})
    return found


def row_address(row):
    """The address of a row under way, None for a drop."""
    word, place = row.step
    return None if word == "drop" else place


def rows_at(state, address):
    """The rows under way of an address, by their numbers."""
    return [row for row in state.under_way if row_address(row) == address]


def left_entry(state, number):
    """The entry of the left thing with this number, None if there is none."""
    found = [entry for _, entry in state.left if entry.number == number]
    return found[0] if found else None


def with_entry(state, address, entry):
    """A state with this entry; an elder one becomes a left thing of the address."""
    entries = entries_of(state)
    left = state.left
    if address in entries:
        left = (*left, (address, entries[address]))
    entries[address] = entry
    return State().renewed(entries, left, state.under_way)


def with_fields(state, address, fields):
    """A state in which the entry of an address has these fields."""
    entries = entries_of(state)
    elder = entries[address]
    entries[address] = Entry(elder.kind, elder.number, fields, elder.answers)
    return State().renewed(entries, state.left, state.under_way)


def without_entry(state, address):
    """A state without the entry of an address, if there is one."""
    entries = {place: entry for place, entry in entries_of(state).items() if place != address}
    return State().renewed(entries, state.left, state.under_way)


def without_left(state, number):
    """A state without the left thing of this number, if there is one."""
    left = tuple([pair for pair in state.left if pair[1].number != number])
    return State().renewed(entries_of(state), left, state.under_way)


def with_rows(state, rows):
    """A state with these rows under way."""
    return State().renewed(entries_of(state), state.left, rows)


def with_row(state, row):
    """A state with a further row under way."""
    return with_rows(state, (*state.under_way, row))


def without_row(state, number):
    """A state without the row under way of this number."""
    return with_rows(state, tuple([row for row in state.under_way if row.number != number]))


def row_until(row, until):
    """A row under way whose request had come to its end by this number."""
    return Row(row.number, row.step, row.action, row.fields, row.since, until)


def row_with_address(row, names):
    """A row under way whose address has another name if there is one for it."""
    address = row_address(row)
    if address not in names:
        return row
    return Row(row.number, (row.step[0], names[address]), row.action, row.fields, row.since, row.until)


def with_addresses(state, names):
    """A state in which addresses have other names, all at once; the names are a dict of addresses.

    An entry that stands in the way of another one, and is not moved itself, becomes a left thing.
    """
    entries = {address: state[address] for address in state.addresses if address not in names}
    left = [(names.get(address, address), entry) for address, entry in state.left]
    for address in state.addresses:
        if address in names:
            new = names[address]
            if new in entries:
                left.append((new, entries[new]))
            entries[new] = state[address]
    rows = tuple([row_with_address(row, names) for row in state.under_way])
    return State().renewed(entries, tuple(left), rows)
