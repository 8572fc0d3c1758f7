"""How lines and expressions are written anew, for another program that says the same."""

from laterknown.errors import BadProgram, NoRoom
from laterknown.expressions import JOIN_ROW, chain_of
from laterknown.lines import NOWHERE, ROOT, Line
from laterknown.programs import read_program
from laterknown.showing import show_lines
from laterknown.tokens import MOST_TOKENS

LITERALS = ("integer", "text")
LETTERS = "abcdefghijklmnopqrstuvwxyz"


def rewritten(expression, change):
    """An expression in which each part, and in the end the whole, is what change makes of it."""
    form, told, parts = expression
    return change((form, told, tuple([rewritten(part, change) for part in parts])))


def parts_within(expression):
    """An expression with all expressions that stand in it."""
    found = []
    ahead = [expression]
    while ahead:
        found.append(ahead.pop())
        ahead.extend(found[-1][2])
    return found


def is_written_index(expression):
    """Whether an expression is an integer or a text in quotes."""
    return expression[0] in LITERALS


def names_block(expression, kind, name):
    """Whether an expression names a field or an answer of a block."""
    form, told, _ = expression
    return form in ("one", "some", "all") and told[:2] == (kind, name)


def moved_line(line, home, words, expression):
    """A line with other words and another expression, and in the root or in a module."""
    return Line((line.at, home, line.above), line.form, words, line.how, expression)


def with_expression(line, expression):
    """A line with another expression."""
    return moved_line(line, line.home, line.words, expression)


def changed_line(line, change):
    """A line of the root in whose expression each part is what change makes of it; other lines are as before."""
    if line.home != ROOT or line.expression is None:
        return line
    return with_expression(line, rewritten(line.expression, change))


def begins_block(line, kind, name):
    """Whether a line begins this block of the root."""
    return line.home == ROOT and line.form == "resource" and line.words == (kind, name)


def lines_of_block(lines, kind, name):
    """The lines of a block of the root."""
    first = [line for line in lines if begins_block(line, kind, name)][0]
    return [first, *[line for line in lines if line.above == first.at]]


def fresh_line(home, above, form, words, expression):
    """A line that was in no program before."""
    return Line((0, home, above), form, words, "", expression)


def root_line(form, words, expression):
    """A line of the root that stands in no block and no use."""
    return fresh_line(ROOT, NOWHERE, form, words, expression)


def lets_of_keys(lets, expression):
    """The names of the lets that an expression of keys needs, directly or over others."""
    found = {}
    ahead = [expression]
    while ahead:
        form, told, parts = ahead.pop()
        if form == "name" and told not in found:
            found[told] = True
            ahead.append(lets[told])
        elif form == "if":
            ahead.extend(parts[1:])
        elif form == "chain":
            ahead.extend(parts)
    return list(found)


def least_tokens(lets, expression, known):
    """As many tokens as an expression of keys has at least when its lets are written out; known are those of lets."""
    form, told, parts = expression
    if form == "name":
        if told not in known:
            known[told] = least_tokens(lets, lets[told], known)
        return known[told]
    if form == "if":
        return 4 + sum([least_tokens(lets, part, known) for part in parts[1:]])
    if form == "chain":
        return len(told) + sum([least_tokens(lets, part, known) for part in parts])
    return 1


def keys_written_out(lets, expression):
    """An expression of keys without lets; raises NoRoom if it would be far too long to be written at all."""
    if least_tokens(lets, expression, {}) > MOST_TOKENS:
        raise NoRoom()
    return written_out(lets, expression)


def written_out(lets, expression):
    """An expression of keys without lets: what they stand for is written in their places."""
    form, told, parts = expression
    if form == "name":
        return written_out(lets, lets[told])
    if form == "if":
        condition, then, otherwise = parts
        return (form, told, (condition, written_out(lets, then), written_out(lets, otherwise)))
    if form == "chain":
        # What was put in may have made parentheses needless.
        return chain_of(JOIN_ROW, list(told), tuple([written_out(lets, part) for part in parts]))
    return expression


def plain_name(word, number):
    """A name that begins with a word and is another one for each number."""
    letters = LETTERS[number % 26]
    rest = number // 26
    while rest > 0:
        letters = LETTERS[rest % 26] + letters
        rest = rest // 26
    return word + letters


def new_program(kinds, lines):
    """The program of these lines; raises NoRoom if it would be too large."""
    try:
        return read_program(kinds, show_lines(lines))
    except BadProgram:
        raise NoRoom() from None
