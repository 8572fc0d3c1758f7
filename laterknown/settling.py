"""How rows under way are closed: by what is told, or by what the world lists."""

from laterknown.addresses import kind_of
from laterknown.errors import NoCandidate, NoLeft, NoRow, Unsettled
from laterknown.recording import (
    left_entry, recorded_numbers, row_address, row_until, rows_at, with_entry, with_fields, with_rows, without_entry,
    without_left, without_row,
)
from laterknown.values import is_number


def kind_of_row(ledger, row):
    """The kind of the address of a row under way that is no drop."""
    return ledger.realm.kinds[kind_of(row_address(row))]


def is_uncertain_make(ledger, row):
    """Whether a row is a make of a kind whose things cannot be told by a token."""
    return row.step[0] == "make" and not kind_of_row(ledger, row).token


def candidates_for(ledger, row):
    """The things that the make of a row may have made, () for other rows."""
    if not is_uncertain_make(ledger, row):
        return ()
    realm = ledger.realm
    until = realm.last if row.until is None else row.until
    known = recorded_numbers(ledger.recorded)
    listed = [number for number in realm.listed(kind_of(row_address(row))) if row.since < number <= until]
    return tuple([number for number in listed if number not in known and realm[number].fields == row.fields])


def close_as_done(ledger, row, number):
    """Closes a row whose request took place; the number is that of the thing for a make."""
    state = without_row(ledger.recorded, row.number)
    word, place = row.step
    if word == "make":
        state = with_entry(state, place, ledger.realm[number])
    elif word == "change" and place in state:
        state = with_fields(state, place, row.fields)
    elif word == "delete":
        state = without_entry(state, place)
    elif word == "drop":
        state = without_left(state, place)
    ledger.record(state)


def close_as_not_done(ledger, row):
    """Closes a row whose request did not take place."""
    ledger.record(without_row(ledger.recorded, row.number))


def entry_of_row(state, row):
    """The entry that a row changes, deletes or drops, None if it is not recorded any more."""
    word, place = row.step
    if word == "drop":
        return left_entry(state, place)
    return state[place] if place in state else None


def settle_make(ledger, row):
    """Closes the row of a make, if what is listed tells whether it was done."""
    if is_uncertain_make(ledger, row):
        if not candidates_for(ledger, row):
            close_as_not_done(ledger, row)
        return
    number = ledger.realm.number_made(kind_of(row_address(row)), row.number)
    if number is None or number in recorded_numbers(ledger.recorded):
        close_as_not_done(ledger, row)
    else:
        close_as_done(ledger, row, number)


def settle_change(ledger, row, entry):
    """Closes the row of a change of the thing of an entry."""
    if entry.number not in ledger.realm:
        close_as_not_done(ledger, row)
        ledger.record(without_entry(ledger.recorded, row.step[1]))
    elif ledger.realm[entry.number].fields == row.fields:
        close_as_done(ledger, row, entry.number)
    else:
        close_as_not_done(ledger, row)


def settle_row(ledger, row):
    """Closes a row, if what is listed tells whether it was done."""
    if row.step[0] == "make":
        settle_make(ledger, row)
        return
    entry = entry_of_row(ledger.recorded, row)
    if entry is None:
        close_as_not_done(ledger, row)
    elif row.step[0] == "change":
        settle_change(ledger, row, entry)
    elif entry.number in ledger.realm:
        close_as_not_done(ledger, row)
    else:
        close_as_done(ledger, row, entry.number)


def settle_rows(ledger):
    """Closes the rows under way, by their numbers, by what is listed."""
    last = ledger.realm.last
    rows = [row_until(row, last) if row.until is None else row for row in ledger.recorded.under_way]
    ledger.record(with_rows(ledger.recorded, tuple(rows)))
    for row in rows:
        settle_row(ledger, row)


def row_under_way(ledger, number):
    """The row under way of this number, None if there is none; the number may be any value."""
    found = [row for row in ledger.recorded.under_way if is_number(number) and row.number == number]
    return found[0] if found else None


def least_row_at(ledger, address):
    """The least row under way of an address, which may be any value; raises NoRow."""
    rows = rows_at(ledger.recorded, address) if isinstance(address, str) else []
    if not rows:
        raise NoRow(address)
    return rows[0]


def claim_row(ledger, address, number):
    """Closes the least row under way of an address as done with a candidate."""
    row = least_row_at(ledger, address)
    if not is_number(number) or number not in candidates_for(ledger, row):
        raise NoCandidate(number)
    close_as_done(ledger, row, number)


def answer_late(ledger, number, told):
    """Closes the row of this number, which may be any value, by what is told late."""
    if not is_number(number) or not 1 <= number <= ledger.many_rows:
        raise NoRow(number)
    row = row_under_way(ledger, number)
    if row is None:
        return
    if told is False or (row.step[0] == "make" and told not in ledger.realm):
        close_as_not_done(ledger, row)
    else:
        close_as_done(ledger, row, told)


def take_back(ledger, address, number):
    """Gives a left thing the entry of its address."""
    state = ledger.recorded
    entries = [entry for place, entry in state.left if is_left_thing(place, entry, address, number)]
    if not entries:
        raise NoLeft(number)
    rows = rows_at(state, address)
    if rows:
        raise Unsettled(rows[0].number)
    ledger.record(with_entry(without_left(state, number), address, entries[0]))


def is_left_thing(place, entry, address, number):
    """Whether a left thing is that of any values as address and number."""
    return isinstance(address, str) and place == address and is_number(number) and entry.number == number
