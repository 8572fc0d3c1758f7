"""Drift: what a world lists otherwise than it is recorded."""

from laterknown.naming import fields_of_kind
from laterknown.values import alike


def listed_entry(world, entry):
    """What a world lists for the thing of an entry, None if it is not there."""
    if entry.number not in world or world[entry.number].kind != entry.kind:
        return None
    return world[entry.number]


def drifted_fields(kinds, entry, listed):
    """The fields that are listed otherwise than they are recorded: tuples (field, recorded, listed)."""
    names = fields_of_kind(kinds[entry.kind])
    parts = [(name, entry.fields[name], listed.fields[name]) for name in names]
    return tuple([part for part in parts if not alike(part[1], part[2])])


def drift(state, world):
    """The addresses whose things are gone, or are listed with other fields than are recorded."""
    found = []
    for address in state.addresses:
        listed = listed_entry(world, state[address])
        if listed is None:
            found.append((address, "gone"))
        else:
            parts = drifted_fields(world.kinds, state[address], listed)
            if parts:
                found.append((address, parts))
    return tuple(found)
