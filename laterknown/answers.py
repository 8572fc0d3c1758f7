"""Rows of answers as they are written: ascending tuples of ((address, answer), text)."""

from laterknown.values import is_text


def is_pair(value):
    """Whether any value is a pair (address, answer)."""
    return isinstance(value, tuple) and len(value) == 2 and all([isinstance(part, str) for part in value])


def is_answered_pair(value):
    """Whether any value is a pair (address, answer) with a text."""
    return isinstance(value, tuple) and len(value) == 2 and is_pair(value[0]) and is_text(value[1])


def is_row(value):
    """Whether any value is a row of answers."""
    if not isinstance(value, tuple) or not all([is_answered_pair(part) for part in value]):
        return False
    pairs = [part[0] for part in value]
    return all([pair < further for pair, further in zip(pairs, pairs[1:])])


def written_row(texts):
    """The row of a dict of texts by pairs; what it has as unknown is left out."""
    return tuple(sorted([(pair, text) for pair, text in texts.items() if is_text(text)]))
