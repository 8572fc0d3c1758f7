"""How expressions are kept, and how they are read from their tokens.

An expression is a tuple (form, told, parts): the parts are the expressions that stand in it, told is what
else is written there. Parentheses are not kept, and operators of one row that stand beside one another are
one chain, so two expressions are equal just if they differ in blanks and needless parentheses alone.

    integer, text, bool        told: the value
    name, index, each, own     told: the name, None, None, the field
    output                     told: (use, output)
    one, some, all             told: (kind, block, field or answer), of K.N.F, K.N[E].F and K.N[*].F
    list, len, if, not         the parts in their sequence
    compare                    told: the sign; two parts
    chain                      told: the signs between the parts, all of one row
    item                       a list and the indexes behind it
"""

from laterknown.errors import BadProgram
from laterknown.tokens import MINUS, NAME, NUMBER, TEXT, tokens_of
from laterknown.values import LONGEST_LIST

DEEPEST_EXPRESSION = 20

COMPARISONS = ("==", "!=", "<", ">", "in")
# The rows of operators that associate, from loose to tight.
OR_ROW = ("or",)
AND_ROW = ("and",)
JOIN_ROW = ("++",)
SUM_ROW = ("+", "-")


def chain_of(row, signs, parts):
    """The expression of parts with signs of a row between them."""
    if not signs:
        return parts[0]
    form, told, inner = parts[0]
    if form == "chain" and told[0] in row:
        # The first part stood in parentheses that are not needed.
        return ("chain", (*told, *signs), (*inner, *parts[1:]))
    return ("chain", tuple(signs), tuple(parts))


def item_of(whole, index):
    """The expression of a list with an index behind it."""
    form, told, parts = whole
    if form == "item":
        return ("item", told, (*parts, index))
    return ("item", None, (whole, index))


class ExpressionReader:
    """Reads the tokens of one expression from the first to the last one."""

    def __init__(self, line, tokens):
        self.line = line
        self.tokens = tokens
        self.at = 0
        self.depth = 0

    def next_word(self):
        """The sign, bracket or reserved word that comes next; no word for other tokens and the end."""
        if self.at < len(self.tokens):
            sort, word = self.tokens[self.at]
            if sort not in (NAME, NUMBER, TEXT):
                return word
        return ""

    def taken(self):
        """The next token, which is taken."""
        if self.at >= len(self.tokens):
            raise BadProgram(self.line)
        self.at += 1
        return self.tokens[self.at - 1]

    def pass_by(self, sign):
        """Takes this sign, which is due."""
        if self.next_word() != sign:
            raise BadProgram(self.line)
        self.at += 1

    def taken_name(self):
        """The name that is due."""
        sort, word = self.taken()
        if sort != NAME:
            raise BadProgram(self.line)
        return word

    def enter(self):
        """Begins something that counts for the depth."""
        self.depth += 1
        if self.depth > DEEPEST_EXPRESSION:
            raise BadProgram(self.line)

    def leave(self):
        """Ends something that counts for the depth."""
        self.depth -= 1

    def read_all(self):
        """The expression of all tokens."""
        whole = self.read_any()
        if self.at < len(self.tokens):
            raise BadProgram(self.line)
        return whole

    def read_any(self):
        """The expression that is due, of any row."""
        if self.next_word() == "if":
            return self.read_if()
        return self.read_chain(OR_ROW)

    def read_if(self):
        """The if that is due."""
        self.enter()
        self.pass_by("if")
        condition = self.read_any()
        self.pass_by("then")
        then = self.read_any()
        self.pass_by("else")
        otherwise = self.read_any()
        self.leave()
        return ("if", None, (condition, then, otherwise))

    def read_chain(self, row):
        """The operand that is due, with the operators of this row behind it."""
        signs = []
        parts = [self.read_tighter(row)]
        while self.next_word() in row:
            signs.append(self.next_word())
            self.pass_by(signs[-1])
            parts.append(self.read_tighter(row))
        return chain_of(row, signs, parts)

    def read_tighter(self, row):
        """An operand of this row."""
        if row == OR_ROW:
            return self.read_chain(AND_ROW)
        if row == AND_ROW:
            return self.read_not()
        if row == JOIN_ROW:
            return self.read_chain(SUM_ROW)
        return self.read_items()

    def read_not(self):
        """The not that is due, or something tighter."""
        if self.next_word() != "not":
            return self.read_comparison()
        self.enter()
        self.pass_by("not")
        part = self.read_not()
        self.leave()
        return ("not", None, (part,))

    def read_comparison(self):
        """The comparison that is due, or something tighter."""
        left = self.read_chain(JOIN_ROW)
        sign = self.next_word()
        if sign not in COMPARISONS:
            return left
        self.pass_by(sign)
        return ("compare", sign, (left, self.read_chain(JOIN_ROW)))

    def read_items(self):
        """The operand that is due, with the indexes behind it."""
        whole = self.read_operand()
        while self.next_word() == "[":
            whole = item_of(whole, self.read_between("[", "]"))
        return whole

    def read_between(self, opening, closing):
        """The expression between two brackets."""
        self.enter()
        self.pass_by(opening)
        inner = self.read_any()
        self.pass_by(closing)
        self.leave()
        return inner

    def read_operand(self):
        """What is no operator: a written value, a name, or something in brackets."""
        word = self.next_word()
        if word == "(":
            return self.read_between("(", ")")
        if word == "[":
            return ("list", None, self.read_parts())
        sort, word = self.taken()
        if sort == TEXT:
            return ("text", word, ())
        if sort == NUMBER:
            return ("integer", int(word), ())
        if sort == MINUS:
            return self.read_negative()
        if sort == NAME:
            return self.read_named(word)
        return self.read_reserved(word)

    def read_negative(self):
        """The integer whose minus was taken."""
        digits = self.taken()[1]
        if digits == "0":
            raise BadProgram(self.line)
        return ("integer", -int(digits), ())

    def read_parts(self):
        """The parts of the list that is due."""
        self.enter()
        self.pass_by("[")
        parts = []
        while self.next_word() != "]":
            if parts:
                self.pass_by(",")
            parts.append(self.read_any())
        self.pass_by("]")
        self.leave()
        if len(parts) > LONGEST_LIST:
            raise BadProgram(self.line)
        return tuple(parts)

    def read_reserved(self, word):
        """The operand that begins with this reserved word, which was taken."""
        if word in ("true", "false"):
            return ("bool", word == "true", ())
        if word in ("index", "each"):
            return (word, None, ())
        if word == "own":
            self.pass_by(".")
            return ("own", self.taken_name(), ())
        if word == "len":
            return ("len", None, (self.read_between("(", ")"),))
        raise BadProgram(self.line)

    def read_named(self, first):
        """What is named by this name, which was taken, and by what stands behind it."""
        if self.next_word() != ".":
            return ("name", first, ())
        self.pass_by(".")
        second = self.taken_name()
        if self.next_word() == ".":
            self.pass_by(".")
            return ("one", (first, second, self.taken_name()), ())
        if self.next_word() != "[":
            return ("output", (first, second), ())
        return self.read_instances(first, second)

    def read_instances(self, first, second):
        """What is named by these two names and the brackets that are due."""
        if self.at + 1 < len(self.tokens) and self.tokens[self.at + 1][1] == "*":
            for sign in ("[", "*", "]", "."):
                self.pass_by(sign)
            return ("all", (first, second, self.taken_name()), ())
        index = self.read_between("[", "]")
        if self.next_word() != ".":
            return item_of(("output", (first, second), ()), index)
        self.pass_by(".")
        return ("some", (first, second, self.taken_name()), (index,))


def read_expression(line, text):
    """The expression that is written in this line; raises BadProgram if it is none."""
    if text.startswith(" "):
        raise BadProgram(line)
    return ExpressionReader(line, tokens_of(line, text)).read_all()
