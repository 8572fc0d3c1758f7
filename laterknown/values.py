"""Values and records of them."""

from laterknown.errors import BadRecord, NoField
from laterknown.words import is_made_of, is_word

LARGEST_INTEGER = 1000000
LONGEST_TEXT = 20
LONGEST_ID = 80
LONGEST_LIST = 16
DEEPEST_LIST = 3
MOST_PARTS = 12

TEXT_SIGNS = "abcdefghijklmnopqrstuvwxyz0123456789-"
ID_SIGNS = "abcdefghijklmnopqrstuvwxyz0123456789-./[]"


def is_number(value):
    """Whether any value is an integer; a bool is none."""
    return isinstance(value, int) and not isinstance(value, bool)


def is_integer_value(value):
    """Whether any value is an integer that is a value."""
    return is_number(value) and -LARGEST_INTEGER <= value <= LARGEST_INTEGER


def is_text(value):
    """Whether any value is a text."""
    return isinstance(value, str) and len(value) <= LONGEST_TEXT and is_made_of(value, TEXT_SIGNS)


def is_marked(value, mark):
    """Whether any value is a string of an id's form behind this mark: # for ids, ? for unknowns."""
    if not isinstance(value, str) or not value.startswith(mark):
        return False
    return 1 <= len(value) - 1 <= LONGEST_ID and is_made_of(value[1:], ID_SIGNS)


def is_value_within(value, deepest):
    """Whether any value is a value in which lists are nested at most so deep."""
    if isinstance(value, tuple):
        if deepest < 1 or len(value) > LONGEST_LIST:
            return False
        return all([is_value_within(part, deepest - 1) for part in value])
    if isinstance(value, bool) or is_integer_value(value):
        return True
    return is_text(value) or is_marked(value, "#") or is_marked(value, "?")


def is_value(value):
    """Whether any value is a value of this package."""
    return is_value_within(value, DEEPEST_LIST)


def alike(one, other):
    """Whether two values, or told parts, are of one sort and equal."""
    if isinstance(one, tuple) and isinstance(other, tuple):
        return len(one) == len(other) and all([alike(part, like) for part, like in zip(one, other)])
    # Python takes True for 1, so a bool is equal to bools alone.
    return isinstance(one, bool) == isinstance(other, bool) and bool(one == other)


def check_parts(parts):
    """Raises BadRecord with the dict unless a record may have these parts."""
    names_are_good = all([is_word(name) and name != "self" for name in parts])
    if not names_are_good or len(parts) > MOST_PARTS:
        raise BadRecord(parts)


class Record:
    """Named parts: values, or what a plan tells of them."""

    def __init__(self, **fields):
        check_parts(fields)
        self._parts = fields

    @classmethod
    def of(cls, pairs):
        """The record of a tuple of (name, part)."""
        parts = dict(pairs)
        check_parts(parts)
        return cls(**parts)

    @property
    def names(self):
        """The names of the parts, ascending."""
        return tuple(sorted(list(self._parts)))

    def __getitem__(self, at):
        if at not in self:
            raise NoField(at)
        return self._parts[at]

    def __iter__(self):
        raise TypeError("a record is asked for its names")

    def __contains__(self, x):
        # What is no string may have no hash, so it is never looked up.
        return isinstance(x, str) and x in self._parts

    def __len__(self):
        return len(self._parts)

    def __or__(self, other):
        parts = {**self._parts, **other._parts}
        return Record(**parts)

    def __eq__(self, other):
        if not isinstance(other, Record) or self.names != other.names:
            return False
        return all([alike(self[name], other[name]) for name in self.names])
