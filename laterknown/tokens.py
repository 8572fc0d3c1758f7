"""The tokens of a written expression.

A token is a tuple (sort, word). Signs, brackets and reserved words are of one sort, because all of them
are told by their word alone. A minus directly ahead of digits is of a sort of its own: whether it belongs
to the integer is known only where the token stands.
"""

from laterknown.errors import BadProgram
from laterknown.values import LARGEST_INTEGER, is_text
from laterknown.words import DIGITS, LETTERS, RESERVED, is_name

MOST_TOKENS = 300

NAME = "name"
NUMBER = "number"
TEXT = "text"
SIGN = "sign"
MINUS = "minus"

LONG_SIGNS = ("==", "!=", "++")
SHORT_SIGNS = "<>+-[](),.*"


def end_of(text, at, signs):
    """Where a row of these signs ends that begins at this place."""
    while at < len(text) and text[at] in signs:
        at += 1
    return at


def number_token(line, word):
    """The token of a row of digits."""
    # The length comes first: Python does not read numbers of any length.
    if len(word) > len(str(LARGEST_INTEGER)) or int(word) > LARGEST_INTEGER:
        raise BadProgram(line)
    if word.startswith("0") and word != "0":
        raise BadProgram(line)
    return (NUMBER, word)


def word_token(line, word):
    """The token of a row of letters."""
    if word in RESERVED:
        return (SIGN, word)
    if not is_name(word):
        raise BadProgram(line)
    return (NAME, word)


def text_token(line, text, at):
    """The token of the text in quotes that begins at this place, and where it ends."""
    end = text.find('"', at + 1)
    if end < 0 or not is_text(text[at + 1:end]):
        raise BadProgram(line)
    return (TEXT, text[at + 1:end]), end + 1


def sign_token(line, text, at):
    """The token of the sign or bracket at this place, and where it ends."""
    if text[at:at + 2] in LONG_SIGNS:
        return (SIGN, text[at:at + 2]), at + 2
    if text[at] not in SHORT_SIGNS:
        raise BadProgram(line)
    if text[at] == "-" and end_of(text, at + 1, DIGITS) > at + 1:
        return (MINUS, "-"), at + 1
    return (SIGN, text[at]), at + 1


def token_at(line, text, at):
    """The token at this place, and where it ends."""
    if text[at] in LETTERS:
        end = end_of(text, at, LETTERS)
        return word_token(line, text[at:end]), end
    if text[at] in DIGITS:
        end = end_of(text, at, DIGITS)
        return number_token(line, text[at:end]), end
    if text[at] == '"':
        return text_token(line, text, at)
    return sign_token(line, text, at)


def tokens_of(line, text):
    """The tokens of the expression in this line; raises BadProgram if it has other signs, or too many."""
    tokens = []
    at = 0
    while at < len(text):
        if text[at] == " ":
            at += 1
        else:
            token, at = token_at(line, text, at)
            tokens.append(token)
    if len(tokens) > MOST_TOKENS:
        raise BadProgram(line)
    return tokens
