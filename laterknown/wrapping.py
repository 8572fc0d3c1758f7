"""How blocks of the root become the blocks of a module with one use."""

from laterknown.errors import Loud
from laterknown.lines import NOWHERE, ROOT
from laterknown.rewriting import (
    fresh_line, is_written_index, keys_written_out, lets_of_keys, lines_of_block, moved_line, parts_within, plain_name,
    rewritten, root_line, with_expression,
)

# The new lines stand below the lines of these numbers; only that they stand below some is of matter.
MODULE = 0
ABOVE = 0


class Wrapping:
    """The blocks that are chosen, and what is named from one side on the other one.

    The inputs are named for the expressions that the chosen blocks name outside, the outputs for those of the
    chosen blocks that are named outside.
    """

    def __init__(self, program, blocks, use):
        self.lets = program.outline.root().lets
        self.chosen = {block: True for block in blocks}
        self.use = use
        self.all_kinds = program.kinds
        self.inputs = {}
        self.outputs = {}
        self.inner = []
        for kind, name in blocks:
            self.inner.extend(lines_of_block(program.lines, kind, name))
        places = {line.at: True for line in self.inner}
        self.outer = [line for line in program.lines if line.at not in places]

    def inner_expressions(self):
        """The expressions of the chosen blocks, with those of the lets that their keys need."""
        found = []
        for line in self.inner:
            if line.expression is not None:
                found.append(line.expression)
            if line.how == "each":
                found.extend([self.lets[name] for name in lets_of_keys(self.lets, line.expression)])
        return found

    def is_chosen(self, expression):
        """Whether an expression names a field or an answer of a chosen block."""
        form, told, _ = expression
        return form in ("one", "some", "all") and told[:2] in self.chosen

    def is_outside(self, expression):
        """Whether an expression names something that a chosen block sees no longer."""
        if expression[0] in ("one", "some", "all"):
            return not self.is_chosen(expression)
        return expression[0] in ("name", "output")

    def check_indexes(self, expressions, is_beyond):
        """Raises Loud if an expression names an instance on the other side by what is no written index or key."""
        for expression in expressions:
            for part in parts_within(expression):
                if part[0] == "some" and is_beyond(part) and not is_written_index(part[2][0]):
                    raise Loud("index")

    def check(self):
        """Raises Loud if a side names an instance of the other one by what is no written index or key."""
        self.check_indexes(self.inner_expressions(), lambda part: self.is_outside(part))
        outer = [line.expression for line in self.outer if line.home == ROOT and line.expression is not None]
        self.check_indexes(outer, lambda part: self.is_chosen(part))

    def name_for(self, names, word, expression):
        """The name for an expression among these names, the same one for the same expression."""
        if expression not in names:
            names[expression] = self.unused_name(names, word)
        return names[expression]

    def unused_name(self, names, word):
        """A name that begins with a word, that none of these names is, and no kind."""
        used = {name: True for name in names.values()}
        number = 0
        while plain_name(word, number) in used or plain_name(word, number) in self.all_kinds:
            number += 1
        return plain_name(word, number)

    def told_inside(self, expression):
        """What stands in the module for an expression of a chosen block."""
        if self.is_outside(expression):
            return ("name", self.name_for(self.inputs, "given", expression), ())
        return expression

    def told_outside(self, expression):
        """What stands in the root for an expression of the root."""
        if self.is_chosen(expression):
            return ("output", (self.use, self.name_for(self.outputs, "told", expression)), ())
        return expression

    def outer_line(self, line):
        """What becomes of a line that is not of a chosen block."""
        if line.home != ROOT or line.expression is None:
            return line
        return with_expression(line, rewritten(line.expression, lambda part: self.told_outside(part)))

    def module_line(self, line):
        """What becomes of a line of a chosen block."""
        expression = line.expression
        if line.how == "each":
            expression = keys_written_out(self.lets, expression)
        if expression is not None:
            expression = rewritten(expression, lambda part: self.told_inside(part))
        return moved_line(line, MODULE, line.words, expression)

    def new_lines(self, module):
        """The lines of the program with the new module and its use."""
        outer = [self.outer_line(line) for line in self.outer]
        inner = [self.module_line(line) for line in self.inner]
        takes = [fresh_line(MODULE, NOWHERE, "input", (name,), None) for name in self.inputs.values()]
        tells = [fresh_line(MODULE, NOWHERE, "output", (name,), told) for told, name in self.outputs.items()]
        gives = [fresh_line(ROOT, ABOVE, "give", (name,), given) for given, name in self.inputs.items()]
        head = root_line("module", (module,), None)
        return [*outer, head, *takes, *inner, *tells, root_line("use", (module, self.use), None), *gives]
