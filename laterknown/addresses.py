"""Addresses: how they are written, and what they tell."""

from laterknown.words import DIGITS, is_made_of


def address_at(block, key):
    """The address of the instance of a block with this index or key, None for a block without."""
    return block if key is None else f"{block}[{key}]"


def kind_of(address):
    """The name of the kind of an address; the address may be any string."""
    return address.rpartition("/")[2].partition(".")[0]


def block_of(address):
    """The block to which an address belongs, as it is written; the address may be any string."""
    return address.partition("[")[0] if address.endswith("]") else address


def coming_id(address, answer):
    """The id that stands for a fresh answer of an address which is to come."""
    return f"#{address}.{answer}"


def unknown_of(address, answer):
    """The unknown that stands for a free answer of an address which is to come."""
    return f"?{address}.{answer}"


def coming_answer(value):
    """The address and the answer to come that an id stands for, None for a recorded id."""
    address, _, answer = value[1:].rpartition(".")
    # Recorded ids have a number in this place, and no kind is called by digits.
    return None if is_made_of(address, DIGITS) else (address, answer)


def ids_in(value):
    """The ids in a value, those in lists as well."""
    if isinstance(value, tuple):
        found = []
        for part in value:
            found.extend(ids_in(part))
        return found
    return [value] if isinstance(value, str) and value.startswith("#") else []


def ids_in_record(record):
    """The ids in all parts of a record."""
    return ids_in(tuple([record[name] for name in record.names]))
