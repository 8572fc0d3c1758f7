"""Words and names, as kinds, programs and records are written with them."""

LETTERS = "abcdefghijklmnopqrstuvwxyz"
DIGITS = "0123456789"
LONGEST_WORD = 12

RESERVED = (
    "if", "then", "else", "and", "or", "not", "in", "len", "true", "false", "index", "each", "own",
    "count", "use", "module", "input", "output", "let", "resource", "deny", "kind", "answers", "left",
    "row", "self",
)


def is_made_of(text, signs):
    """Whether each character of a text is one of these signs."""
    return all([sign in signs for sign in text])


def is_word(value):
    """Whether any value is a row of 1 to 12 letters."""
    return isinstance(value, str) and 1 <= len(value) <= LONGEST_WORD and is_made_of(value, LETTERS)


def is_name(value):
    """Whether any value may be given as a name."""
    return is_word(value) and value not in RESERVED
