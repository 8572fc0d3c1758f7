"""Whether each name of a program is given once, and whether all that it names is there."""

from laterknown.errors import Doubled, Unnamed
from laterknown.lines import NOWHERE
from laterknown.scopes import Block
from laterknown.words import LETTERS

SPECIAL_WORDS = {"": "", "count": "index", "each": "each"}


def given_key(line):
    """What a line gives, as no other line of the program may give it; None if it gives no name."""
    name = line.words[-1]
    if line.form in ("let", "input", "use"):
        return ("name", line.home, name)
    if line.form == "resource":
        return ("resource", line.home, line.words)
    if line.form in ("module", "output"):
        return (line.form, line.home, name)
    if line.form in ("field", "give"):
        return ("part", line.above, name)
    return None


def check_doubled(kinds, lines):
    """Raises Doubled with the first line that gives a name which is given already."""
    given = {}
    for line in lines:
        key = given_key(line)
        if key is not None:
            if key in given or (key[0] == "name" and key[2] in kinds):
                raise Doubled(line.at)
            given[key] = True


def fields_of_kind(kind):
    """All fields of a kind."""
    return kind.set_fields + kind.fixed_fields


def answers_of_kind(kind):
    """All answers of a kind."""
    return kind.fresh_answers + kind.free_answers


class Sight:
    """What the expression of one line may name."""

    def __init__(self, kinds, outline, line):
        self._kinds = kinds
        self.outline = outline
        self.scope = outline.scopes[line.home]
        self.special = ""
        self.own_fields = ()
        if line.form == "field":
            self.special = SPECIAL_WORDS[outline.begun[line.above].how]
        if line.form == "deny":
            self.own_fields = fields_of_kind(kinds[line.words[0]])

    def has_output(self, use_name, output):
        """Whether there is a use of this name with such an output."""
        if use_name not in self.scope.uses:
            return False
        module = self.outline.module(self.scope.uses[use_name].module_name)
        return module is not None and output in module.outputs

    def has_part(self, form, kind_name, block_name, part):
        """Whether there is a block with such a field or answer, and with instances if the form wants them."""
        if kind_name not in self._kinds or (kind_name, block_name) not in self.scope.things:
            return False
        is_single = self.scope.things[(kind_name, block_name)].how == ""
        kind = self._kinds[kind_name]
        return is_single == (form == "one") and part in fields_of_kind(kind) + answers_of_kind(kind)

    def has(self, form, told):
        """Whether there is what an expression of this form names, besides what its parts name."""
        if form == "name":
            return told in self.scope.lets or told in self.scope.takes
        if form in ("index", "each"):
            return form == self.special
        if form == "own":
            return told in self.own_fields
        if form == "output":
            return self.has_output(*told)
        if form in ("one", "some", "all"):
            return self.has_part(form, *told)
        return True

    def has_all(self, expression):
        """Whether there is all that an expression names."""
        form, told, parts = expression
        return self.has(form, told) and all([self.has_all(part) for part in parts])


def is_key(expression):
    """Whether an expression is a text in quotes that may be a key."""
    form, told, _ = expression
    return form == "text" and told != "" and told[0] in LETTERS


def are_keys(scope, expression):
    """Whether an expression is made as keys are, with all lets that it names."""
    seen = {}
    ahead = [expression]
    while ahead:
        form, told, parts = ahead.pop()
        if form == "name" and told in scope.lets:
            # A let that stands in itself counts as right there, so each one is looked at once.
            if told not in seen:
                seen[told] = True
                ahead.append(scope.lets[told])
        elif form == "if":
            ahead.extend(parts[1:])
        elif form == "chain" and told[0] == "++":
            ahead.extend(parts)
        elif form != "list" or not all([is_key(part) for part in parts]):
            return False
    return True


def wanted_names(kinds, outline, begun):
    """The fields of a block or the inputs of a use, whose kind or module is there."""
    if isinstance(begun, Block):
        return fields_of_kind(kinds[begun.kind_name])
    return tuple(outline.module(begun.module_name).takes)


def has_its_words(kinds, outline, line):
    """Whether there is what the words of a line name, and below the line all that is wanted there."""
    name = line.words[0]
    if line.form in ("resource", "deny") and name not in kinds:
        return False
    if line.form == "use" and outline.module(name) is None:
        return False
    if line.form in ("resource", "use"):
        begun = outline.begun[line.at]
        return all([part in begun.given for part in wanted_names(kinds, outline, begun)])
    # The line of the block or use was looked at before.
    return line.above == NOWHERE or name in wanted_names(kinds, outline, outline.begun[line.above])


def is_all_named(kinds, outline, line):
    """Whether a line names only what there is."""
    if not has_its_words(kinds, outline, line):
        return False
    if line.expression is None:
        return True
    if line.how == "each" and not are_keys(outline.scopes[line.home], line.expression):
        return False
    return Sight(kinds, outline, line).has_all(line.expression)


def check_named(kinds, outline, lines):
    """Raises Unnamed with the first line that names what there is not."""
    for line in lines:
        if not is_all_named(kinds, outline, line):
            raise Unnamed(line.at)
