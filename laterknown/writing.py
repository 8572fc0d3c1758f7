"""How values and records are written, and how what is so written is read."""

from laterknown.errors import LaterError
from laterknown.telling import OPEN, Later
from laterknown.values import DEEPEST_LIST, Record, is_number, is_text, is_value
from laterknown.words import DIGITS, is_made_of, is_word

MOST_DIGITS = 12


class NotWritten(LaterError):
    """Something is not written as it has to be."""


def show_part(part):
    """How a value or a told part is written."""
    if isinstance(part, Later):
        return f"later {part.address}.{part.answer}"
    if isinstance(part, tuple):
        return "[" + ", ".join([show_part(inner) for inner in part]) + "]"
    if isinstance(part, bool):
        return "true" if part else "false"
    if is_number(part):
        return str(part)
    if part == OPEN:
        return "open"
    return f'"{part}"' if is_text(part) else part


def show_record(record):
    """How a record is written."""
    return "{" + ", ".join([f"{name}: {show_part(record[name])}" for name in record.names]) + "}"


def read_number(word, least):
    """The number that a word tells, from the least one on."""
    if not 1 <= len(word) <= MOST_DIGITS or not is_made_of(word, DIGITS):
        raise NotWritten()
    if (word != "0" and word.startswith("0")) or int(word) < least:
        raise NotWritten()
    return int(word)


def is_id(word):
    """Whether a word is the id of a thing with a number."""
    number, _, answer = word[1:].partition(".")
    if not word.startswith("#") or not is_word(answer):
        return False
    return 1 <= len(number) <= MOST_DIGITS and is_made_of(number, DIGITS) and not number.startswith("0")


class PartReader:
    """Reads values and records out of a text, from a place on."""

    def __init__(self, text, at):
        self.text = text
        self.at = at
        self.depth = 0

    def is_at(self, sign):
        """Whether these signs come next."""
        return self.text[self.at:self.at + len(sign)] == sign

    def pass_by(self, sign):
        """Takes these signs, which are due."""
        if not self.is_at(sign):
            raise NotWritten()
        self.at += len(sign)

    def taken_until(self, ends):
        """What comes next, up to one of these signs or to the end."""
        first = self.at
        while self.at < len(self.text) and self.text[self.at] not in ends:
            self.at += 1
        return self.text[first:self.at]

    def read_value(self):
        """The value that is due."""
        value = self.read_part()
        if not is_value(value):
            raise NotWritten()
        return value

    def read_part(self):
        """The value that is due, of whatever size."""
        if self.is_at("["):
            return self.read_list()
        if self.is_at('"'):
            self.pass_by('"')
            text = self.taken_until('"')
            self.pass_by('"')
            return checked_text(text)
        return plain_value(self.taken_until(" ,]}"))

    def read_list(self):
        """The list that is due."""
        self.pass_by("[")
        self.depth += 1
        if self.depth > DEEPEST_LIST:
            raise NotWritten()
        parts = []
        while not self.is_at("]"):
            if parts:
                self.pass_by(", ")
            parts.append(self.read_part())
        self.pass_by("]")
        self.depth -= 1
        return tuple(parts)

    def read_record(self, names):
        """The record that is due, with just these names."""
        self.pass_by("{")
        parts = []
        for name in sorted(list(names)):
            if parts:
                self.pass_by(", ")
            self.pass_by(f"{name}: ")
            parts.append((name, self.read_value()))
        self.pass_by("}")
        return Record.of(tuple(parts))

    def check_end(self):
        """Raises NotWritten if anything comes next."""
        if self.at < len(self.text):
            raise NotWritten()


def checked_text(text):
    """A text, as it stands between quotes."""
    if not is_text(text):
        raise NotWritten()
    return text


def plain_value(word):
    """The bool, the id or the integer that a word tells."""
    if word in ("true", "false"):
        return word == "true"
    if is_id(word):
        return word
    if word.startswith("-"):
        return -read_number(word[1:], 1)
    return read_number(word, 0)


def read_whole_value(text):
    """The value that is written in the whole of a text."""
    reader = PartReader(text, 0)
    value = reader.read_value()
    reader.check_end()
    return value


def read_whole_record(text, names):
    """The record with just these names that is written in the whole of a text."""
    reader = PartReader(text, 0)
    record = reader.read_record(names)
    reader.check_end()
    return record
