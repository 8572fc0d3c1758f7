"""Kinds of things, and how they are read and shown."""

from laterknown.errors import BadKinds, NoKind
from laterknown.words import is_name

MOST_KINDS = 8
MOST_FIELDS = 6
MOST_ANSWERS = 2

FIELD_WORDS = ("set", "fixed")
ANSWER_WORDS = ("fresh", "free")
MARKS = ("held", "single", "token", "guarded")


class Kind:
    """A kind of thing: its fields, its answers and its marks."""

    def __init__(self, name, parts):
        self._name = name
        self._parts = parts

    def _named(self, word):
        return tuple([part[1] for part in self._parts if part[0] == word])

    def _is_marked(self, mark):
        return (mark,) in self._parts

    @property
    def name(self):
        """The name of the kind."""
        return self._name

    @property
    def set_fields(self):
        """The fields that can be changed."""
        return self._named("set")

    @property
    def fixed_fields(self):
        """The fields that need a new thing for another value."""
        return self._named("fixed")

    @property
    def fresh_answers(self):
        """The answers that are ids unlike all others."""
        return self._named("fresh")

    @property
    def free_answers(self):
        """The answers that are any texts."""
        return self._named("free")

    @property
    def unique_fields(self):
        """The fields in which no two things of the kind are alike."""
        return self._named("unique")

    @property
    def held(self):
        """Whether a thing cannot be deleted while another one holds it."""
        return self._is_marked("held")

    @property
    def single(self):
        """Whether the new thing of a replacement cannot stand beside the old one."""
        return self._is_marked("single")

    @property
    def token(self):
        """Whether a make that is repeated with the same token gives the same thing."""
        return self._is_marked("token")

    @property
    def guarded(self):
        """Whether a plan never deletes or replaces the thing of an address."""
        return self._is_marked("guarded")

    def __eq__(self, other):
        return isinstance(other, Kind) and self._name == other._name and self._parts == other._parts


class Kinds:
    """The kinds of a text, by their names."""

    def __init__(self, text, table):
        self._text = text
        self._table = table

    @property
    def names(self):
        """The names of the kinds, in the sequence of the text."""
        return tuple(self._table)

    def shown(self):
        """The text that was read."""
        return self._text

    def __getitem__(self, at):
        if at not in self:
            raise NoKind(at)
        return self._table[at]

    def __iter__(self):
        raise TypeError("kinds are asked for their names")

    def __contains__(self, x):
        # What is no string may have no hash, so it is never looked up.
        return isinstance(x, str) and x in self._table

    def __len__(self):
        return len(self._table)

    def __eq__(self, other):
        return isinstance(other, Kinds) and self._text == other._text


def is_new_part(words, parts, family, most):
    """Whether a field or an answer may be added to the parts of a kind."""
    if not is_name(words[1]) or len([part for part in parts if part[0] in family]) >= most:
        return False
    given = [part[1] for part in parts if part[0] in FIELD_WORDS + ANSWER_WORDS]
    return words[1] not in given


def is_part(words, parts):
    """Whether a line of these words may stand below the lines of these parts."""
    if len(words) == 1:
        return words[0] in MARKS and words not in parts
    if len(words) != 2:
        return False
    if words[0] == "unique":
        is_field = ("set", words[1]) in parts or ("fixed", words[1]) in parts
        return is_field and words not in parts
    if words[0] in FIELD_WORDS:
        return is_new_part(words, parts, FIELD_WORDS, MOST_FIELDS)
    return words[0] in ANSWER_WORDS and is_new_part(words, parts, ANSWER_WORDS, MOST_ANSWERS)


def is_new_kind(words, table):
    """Whether a line of these words may begin a kind beside those of the table."""
    if len(words) != 2 or words[0] != "kind" or len(table) >= MOST_KINDS:
        return False
    return is_name(words[1]) and words[1] not in table


def read_kinds(text):
    """The kinds that are written in the lines of a text."""
    if not isinstance(text, str):
        raise BadKinds(0)
    table = {}
    parts = []
    for at, line in enumerate(text.split("\n")):
        if line.startswith("  ") and table:
            part = tuple(line[2:].split(" "))
            if not is_part(part, parts):
                raise BadKinds(at)
            parts.append(part)
        else:
            words = line.split(" ")
            if not is_new_kind(words, table):
                raise BadKinds(at)
            parts = []
            table[words[1]] = parts
    return Kinds(text, {name: Kind(name, tuple(lines)) for name, lines in table.items()})


def show_kinds(kinds):
    """The text from which the kinds were read."""
    return kinds.shown()
