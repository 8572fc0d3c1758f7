"""The lines of a program, one by one: which forms they have and where they stand."""

from laterknown.errors import BadProgram
from laterknown.expressions import read_expression
from laterknown.words import is_name

ROOT = -1
NOWHERE = -1

ROOT_FORMS = ("let", "resource", "module", "use", "deny")
MODULE_FORMS = ("input", "let", "resource", "output")
FORMS_OF_TWO_NAMES = ("resource", "use")
FORMS_WITHOUT_EXPRESSION = ("module", "use", "input")

MOST_LINES = {"resource": 12, "let": 24, "input": 12, "output": 12, "use": 4}


class Line:
    """One line of a program.

    The place is its number, the number of the line of the module in which it stands (home), and that of the
    line of its block or use (above). The form is the word with which it begins; it is field for `FIELD EXPR`
    and give for `INPUT EXPR`. The words are its names, how is count, each or nothing, and the expression is
    None where none is written.
    """

    def __init__(self, place, form, words, how, expression):
        self.at, self.home, self.above = place
        self.form = form
        self.words = words
        self.how = how
        self.expression = expression


def place_behind(at, blanks, before):
    """The place of a line with so many blanks ahead; before is the line before, None for the first one."""
    if blanks == 0:
        return at, ROOT, NOWHERE
    if before is None:
        raise BadProgram(at)
    home = before.at if before.form == "module" else before.home
    if blanks == 2 and home != ROOT:
        return at, home, NOWHERE
    above = before.at if before.form in ("resource", "use") else before.above
    if above == NOWHERE or blanks != (2 if home == ROOT else 4):
        raise BadProgram(at)
    return at, home, above


def first_word(text):
    """What stands ahead of the first blank of a text, and what stands behind it."""
    word, _, behind = text.partition(" ")
    return word, behind


def read_names(at, many, text):
    """So many names at the beginning of a text, and what stands behind them and a blank."""
    words = text.split(" ", many)
    names = tuple(words[:many])
    if len(names) < many or not all([is_name(name) for name in names]):
        raise BadProgram(at)
    return names, "".join(words[many:])


def read_form(place, form, text):
    """The line of this form with this text behind the word of the form."""
    at = place[0]
    names, behind = read_names(at, 2 if form in FORMS_OF_TWO_NAMES else 1, text)
    # No line ends with a blank, so nothing stands behind the names just if this is empty.
    if behind == "" and (form == "resource" or form in FORMS_WITHOUT_EXPRESSION):
        return Line(place, form, names, "", None)
    if form in FORMS_WITHOUT_EXPRESSION:
        raise BadProgram(at)
    if form != "resource":
        return Line(place, form, names, "", read_expression(at, behind))
    how, many = first_word(behind)
    if how not in ("count", "each"):
        raise BadProgram(at)
    return Line(place, form, names, how, read_expression(at, many))


def check_room(at, form, lines):
    """Raises BadProgram if there may be no further line of this form."""
    if form in MOST_LINES and len([line for line in lines if line.form == form]) >= MOST_LINES[form]:
        raise BadProgram(at)


def read_line(at, text, lines):
    """The line that is written in a text, behind the lines that were read."""
    bare = text.lstrip(" ")
    if bare.endswith(" "):
        raise BadProgram(at)
    place = place_behind(at, len(text) - len(bare), lines[-1] if lines else None)
    _, home, above = place
    if above != NOWHERE:
        return read_form(place, "field" if lines[above].form == "resource" else "give", bare)
    form, behind = first_word(bare)
    if form not in (ROOT_FORMS if home == ROOT else MODULE_FORMS):
        raise BadProgram(at)
    check_room(at, form, lines)
    return read_form(place, form, behind)


def read_lines(text):
    """The lines of a program; raises BadProgram with the first one that has no form or no place."""
    if not isinstance(text, str):
        raise BadProgram(0)
    lines = []
    if text != "":
        for at, row in enumerate(text.split("\n")):
            lines.append(read_line(at, row, lines))
    return tuple(lines)
