"""How the lines of a program and their expressions are written: no blank and no parentheses too many."""

from laterknown.lines import NOWHERE, ROOT

# The rows of operators, from loose to tight: what is looser than its place wants stands in parentheses.
LOOSEST = 0
TIGHTNESS = {
    "if": 0, "or": 1, "and": 2, "not": 3, "==": 4, "!=": 4, "<": 4, ">": 4, "in": 4, "++": 5, "+": 6, "-": 6,
    "item": 7,
}
TIGHTEST = 8


def tightness_of(form, told):
    """The row of an expression with this form."""
    if form == "chain":
        return TIGHTNESS[told[0]]
    if form == "compare":
        return TIGHTNESS[told]
    return TIGHTNESS.get(form, TIGHTEST)


def wanted_tightness(form, told, at):
    """The loosest row that needs no parentheses as this part of an expression."""
    if form in ("chain", "compare"):
        return tightness_of(form, told) + 1
    if form == "not":
        return tightness_of(form, told)
    if form == "item" and at == 0:
        return TIGHTEST
    return LOOSEST


def in_brackets(words):
    """Each of the words in brackets of its own."""
    return "".join([f"[{word}]" for word in words])


def show_chain(signs, words):
    """The words with the signs between them."""
    pairs = [f"{sign} {word}" for sign, word in zip(signs, words[1:])]
    return " ".join([words[0], *pairs])


def show_operators(form, told, words):
    """How an expression whose parts are written so is written, if it has parts beside one another."""
    if form == "if":
        return f"if {words[0]} then {words[1]} else {words[2]}"
    if form == "not":
        return f"not {words[0]}"
    if form == "compare":
        return f"{words[0]} {told} {words[1]}"
    if form == "chain":
        return show_chain(told, words)
    if form == "item":
        return words[0] + in_brackets(words[1:])
    inner = ", ".join(words)
    return f"[{inner}]" if form == "list" else f"len({inner})"


def show_operand(form, told, words):
    """How a written value or what is named by names is written; the words are those of the indexes."""
    if form == "text":
        return f'"{told}"'
    if form == "bool":
        return "true" if told else "false"
    if form in ("index", "each"):
        return form
    if form == "own":
        return f"own.{told}"
    if form == "output":
        return ".".join(told)
    if form in ("one", "some", "all"):
        kind_name, block_name, part = told
        brackets = "[*]" if form == "all" else in_brackets(words)
        return f"{kind_name}.{block_name}{brackets}.{part}"
    return str(told)


def show_expression(expression):
    """How an expression is written."""
    form, told, parts = expression
    words = []
    for at, part in enumerate(parts):
        word = show_expression(part)
        is_loose = tightness_of(part[0], part[1]) < wanted_tightness(form, told, at)
        words.append(f"({word})" if is_loose else word)
    if form in ("if", "not", "compare", "chain", "item", "list", "len"):
        return show_operators(form, told, words)
    return show_operand(form, told, words)


def show_line(line):
    """How a line of a program is written."""
    words = list(line.words)
    if line.form not in ("field", "give"):
        words.insert(0, line.form)
    if line.how:
        words.append(line.how)
    if line.expression is not None:
        words.append(show_expression(line.expression))
    depth = len([place for place in ((line.home, ROOT), (line.above, NOWHERE)) if place[0] != place[1]])
    return "  " * depth + " ".join(words)


def show_lines(lines):
    """The text of these lines."""
    return "\n".join([show_line(line) for line in lines])
