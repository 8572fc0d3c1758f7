"""Programs: how they are read and shown."""

from laterknown.errors import RingOfNames
from laterknown.layout import layout_of
from laterknown.lines import read_lines
from laterknown.naming import check_doubled, check_named
from laterknown.nodes import is_ring, ways_of
from laterknown.rings import ring_in
from laterknown.scopes import outline_of, written_blocks
from laterknown.showing import show_lines


class Program:
    """A program that was read: its lines, and what they give."""

    def __init__(self, kinds, lines, outline):
        self._kinds = kinds
        self.lines = lines
        self.outline = outline
        self.layout = layout_of(kinds, outline, lines)
        self._blocks = written_blocks(lines, outline)
        # Programs are equal just if they are shown alike, for blanks and needless parentheses are not kept.
        self._text = show_lines(lines)

    @property
    def kinds(self):
        """The kinds with which the program was read."""
        return self._kinds

    @property
    def blocks(self):
        """All blocks, in the sequence of the text, those of a use where the use stands."""
        return self._blocks

    def shown(self):
        """A text that is read as an equal program."""
        return self._text

    def __eq__(self, other):
        return isinstance(other, Program) and self._text == other._text


def outline_read(kinds, lines):
    """The outline of lines in which each name is given once and named where it is."""
    check_doubled(kinds, lines)
    outline = outline_of(lines)
    check_named(kinds, outline, lines)
    return outline


def read_program(kinds, text):
    """The program that is written in the lines of a text."""
    lines = read_lines(text)
    outline = outline_read(kinds, lines)
    ring = ring_in(ways_of(kinds, outline))
    if ring:
        raise RingOfNames(ring)
    return Program(kinds, lines, outline)


def show_program(program):
    """A text that is read as an equal program."""
    return program.shown()


def shows_ring(kinds, text, value):
    """Whether any value is a ring of the nodes of a text that raises RingOfNames."""
    return is_ring(ways_of(kinds, outline_read(kinds, read_lines(text))), value)
