"""What the lines of a program give: the root and the modules, with all that is named in them."""

from laterknown.lines import NOWHERE, ROOT


class Block:
    """A block: its fields are given by expressions; many is that of its count or keys."""

    def __init__(self, kind_name, block_name, how, many):
        self.kind_name = kind_name
        self.block_name = block_name
        self.how = how
        self.many = many
        self.given = {}


class Use:
    """A use of a module: its inputs are given by expressions."""

    def __init__(self, module_name):
        self.module_name = module_name
        self.given = {}


class Scope:
    """The names of the root or of a module."""

    def __init__(self):
        self.lets = {}
        self.takes = {}
        self.things = {}
        self.outputs = {}
        self.uses = {}


class Outline:
    """The scopes of a program, and its blocks and uses, by the lines with which they begin."""

    def __init__(self):
        self.scopes = {ROOT: Scope()}
        self.homes = {}
        self.begun = {}

    def root(self):
        """The scope of the root."""
        return self.scopes[ROOT]

    def module(self, name):
        """The scope of the module of this name, None if there is none."""
        return self.scopes[self.homes[name]] if name in self.homes else None

    def take_line(self, line):
        """Takes up a line that gives something in the root or in a module."""
        scope = self.scopes[line.home]
        name = line.words[-1]
        if line.form == "let":
            scope.lets[name] = line.expression
        elif line.form == "input":
            scope.takes[name] = True
        elif line.form == "output":
            scope.outputs[name] = line.expression
        elif line.form == "resource":
            self.begun[line.at] = Block(line.words[0], name, line.how, line.expression)
            scope.things[line.words] = self.begun[line.at]
        elif line.form == "use":
            self.begun[line.at] = Use(line.words[0])
            scope.uses[name] = self.begun[line.at]
        elif line.form == "module":
            self.scopes[line.at] = Scope()
            self.homes[name] = line.at
        elif line.above != NOWHERE:
            self.begun[line.above].given[name] = line.expression


def outline_of(lines):
    """The outline of the lines of a program in which no name is doubled."""
    outline = Outline()
    for line in lines:
        outline.take_line(line)
    return outline


def written_blocks(lines, outline):
    """All blocks as they are written, in the sequence of the lines, those of a use where the use stands."""
    written = []
    for line in lines:
        if line.form == "resource" and line.home == ROOT:
            written.append(".".join(line.words))
        if line.form == "use":
            module_name, use_name = line.words
            module = outline.module(module_name)
            written.extend([f"{use_name}/{kind_name}.{name}" for kind_name, name in module.things])
    return tuple(written)
