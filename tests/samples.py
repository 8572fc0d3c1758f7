"""What the tests have in common: the kinds and the program of the document, any values, and checks."""

from laterknown.errors import LaterError
from laterknown.kinds import read_kinds
from laterknown.programs import read_program
from laterknown.values import Record

KINDS_TEXT = """kind net
  fixed range
  fresh id
  free zone
  held
kind box
  set size
  set net
  set label
  fresh id
  unique label
  token"""

ZONED = """let home net.z.id
resource net z
  range 9
resource box c
  size 1
  net home
  label ["c"]
resource box extra each if net.z.zone == "eu" then ["a"] else []
  size 1
  net net.z.id
  label [each]
module pair
  input top
  resource box b count 2
    size top
    net "none"
    label ["b", index]
  output sizes box.b[*].size
use pair main
  top 3
deny box own.size > 5"""

KINDS = read_kinds(KINDS_TEXT)

RESERVED = (
    "if then else and or not in len true false index each own count use module input output let resource "
    "deny kind answers left row self"
).split(" ")


def nested(depth):
    """A list that is nested so deep in lists of Python."""
    value = []
    for _ in range(depth - 1):
        value = [value]
    return value


# Any values that are no strings; some of them have no hash.
NO_STRINGS = (
    0, 1, -5, 10 ** 30, True, False, None, (), (1, "a"), ([],), [], ["net"], {}, {"net": 1}, {"a": []},
    Record(), Record(net=1), (Record(a=1),), nested(30),
)


def outcome_of(call, *arguments):
    """What a call returns, or the name of its error and the error's value."""
    try:
        return call(*arguments)
    except LaterError as error:
        return error.__class__.__name__, getattr(error, "value", None)


def problem_of(text, kinds=KINDS):
    """The error with which a text is no program, None if it is one."""
    try:
        read_program(kinds, text)
    except LaterError as error:
        return error.__class__.__name__, getattr(error, "value", None)
    return None


def lines(*rows):
    """The text of these lines."""
    return "\n".join(rows)


def same(one, other):
    """Whether two values are alike, as a record compares its parts."""
    return Record(a=one) == Record(a=other)


ANY_VALUES = ("", "a", "net.z", "box.c", "#1.id", "box", *NO_STRINGS)
