"""Refactorings: programs that are written otherwise, and say the same but for names."""

from laterknown.addresses import address_at, block_of
from laterknown.answers import is_row
from laterknown.errors import BadName, Loud, NoBlock, NotSingle, Taken
from laterknown.evaluation import NoValue
from laterknown.lines import ROOT, Line
from laterknown.loudness import Comparison
from laterknown.rewriting import (
    begins_block, changed_line, lines_of_block, moved_line, names_block, new_program, parts_within,
)
from laterknown.states import State
from laterknown.surveys import settled_survey
from laterknown.words import is_name
from laterknown.wrapping import Wrapping


def loud(one, other, pairs):
    """Any row under which two programs are not the same but for these names of addresses, None for none."""
    return Comparison(one, other, pairs, ()).loud_row()


def quiet(one, other, pairs):
    """Whether two programs are the same but for these names of addresses."""
    return loud(one, other, pairs) is None


def shows_loud(one, other, pairs, value):
    """Whether any value is a row under which two programs are not the same but for these names."""
    if not is_row(value):
        return False
    return Comparison(one, other, pairs, (dict(value),)).loud_among([dict(value)]) is not None


def check_block(program, kind, name):
    """Raises NoBlock unless any values tell a block of the root."""
    is_told = isinstance(kind, str) and isinstance(name, str)
    if not is_told or (kind, name) not in program.outline.root().things:
        raise NoBlock((kind, name))


def check_new_name(program, kind, new):
    """Raises BadName or Taken unless any value may be the name of a new block of a kind."""
    if not is_name(new):
        raise BadName(new)
    if (kind, new) in program.outline.root().things:
        raise Taken(new)


def wished_addresses(program):
    """The addresses that are wished under some row with the empty state, ascending."""
    survey = settled_survey(program, State())
    found = {address: True for case in survey.cases for address in case.standings}
    return sorted(list(found))


def renamed(program, kind, name, new):
    """The program with another name for a block of the root, and the pairs of addresses."""
    check_block(program, kind, name)
    check_new_name(program, kind, new)
    lines = []
    for line in program.lines:
        words = (kind, new) if begins_block(line, kind, name) else line.words
        changed = changed_line(line, lambda part: renamed_expression(part, kind, name, new))
        lines.append(moved_line(changed, changed.home, words, changed.expression))
    old_block, new_block = f"{kind}.{name}", f"{kind}.{new}"
    pairs = [(address, with_block(address, old_block, new_block)) for address in wished_addresses(program)]
    return new_program(program.kinds, lines), tuple(pairs)


def renamed_expression(expression, kind, name, new):
    """What becomes of an expression when a block gets another name."""
    form, told, parts = expression
    return (form, (kind, new, told[2]), parts) if names_block(expression, kind, name) else expression


def with_block(address, old_block, new_block):
    """An address with another block if it belongs to the old one."""
    if block_of(address) != old_block:
        return address
    return new_block + address[len(old_block):]


def counted(program, kind, name):
    """The program with count 1 for a block of the root, and the pairs of addresses."""
    check_block(program, kind, name)
    if program.outline.root().things[(kind, name)].how != "":
        raise NotSingle(name)
    lines = []
    for line in program.lines:
        if begins_block(line, kind, name):
            lines.append(Line((line.at, line.home, line.above), line.form, line.words, "count", ("integer", 1, ())))
        else:
            lines.append(changed_line(line, lambda part: counted_expression(part, kind, name)))
    block = f"{kind}.{name}"
    pairs = [(at, address_at(at, 0) if at == block else at) for at in wished_addresses(program)]
    return new_program(program.kinds, lines), tuple(pairs)


def counted_expression(expression, kind, name):
    """What becomes of an expression when a block gets count 1."""
    if not names_block(expression, kind, name):
        return expression
    return ("some", expression[1], (("integer", 0, ()),))


def common_keys(survey, site):
    """The indexes or keys of a site that are the same in all cases, None if there are no such ones."""
    found = {}
    for case in survey.cases:
        try:
            found[case.instances_of(site)] = True
        except NoValue:
            return None
    return list(found)[0] if len(found) == 1 else None


def keys_to_split(program, kind, name, names):
    """The indexes or keys of a block of the root, as many as names; raises Loud if there are no such ones."""
    site = program.layout.sites[f"{kind}.{name}"]
    if site.block.how == "":
        raise Loud("instances")
    keys = common_keys(settled_survey(program, State()), site)
    if keys is None or len(keys) != len(names):
        raise Loud("instances")
    return keys


def check_indexes(program, kind, name, keys):
    """Raises Loud unless each instance of a block that is named is named by one of these indexes or keys."""
    written = [written_key(key) for key in keys]
    for line in program.lines:
        if line.home == ROOT and line.expression is not None:
            for part in parts_within(line.expression):
                if part[0] == "some" and names_block(part, kind, name) and part[2][0] not in written:
                    raise Loud("index")


def written_key(key):
    """The expression of an index or a key."""
    return ("text" if isinstance(key, str) else "integer", key, ())


def check_split_names(program, kind, names):
    """Raises BadName or Taken with the first of any values that cannot be the name of a new block."""
    for at, name in enumerate(names):
        check_new_name(program, kind, name)
        if name in names[:at]:
            raise Taken(name)


def split_expression(expression, kind, name, table):
    """What becomes of an expression when a block is split; the table has the new names by the old keys."""
    form, told, parts = expression
    if form == "some" and names_block(expression, kind, name):
        return ("one", (kind, table[parts[0]], told[2]), ())
    if form == "all" and names_block(expression, kind, name):
        return ("list", None, tuple([("one", (kind, new, told[2]), ()) for new in table.values()]))
    return expression


def instance_lines(lines, words, key):
    """The lines of a block of the root as they are for one of its instances, with these words."""
    first, *fields = lines
    found = [Line((first.at, ROOT, first.above), "resource", words, "", None)]
    for line in fields:
        found.append(changed_line(line, lambda part: key if part[0] in ("index", "each") else part))
    return found


def split(program, kind, name, names):
    """The program with a block without count and keys for each instance of one, and the pairs of addresses."""
    check_block(program, kind, name)
    keys = keys_to_split(program, kind, name, names)
    check_indexes(program, kind, name, keys)
    check_split_names(program, kind, names)
    table = {written_key(key): new for key, new in zip(keys, names)}
    block_lines = lines_of_block(program.lines, kind, name)
    lines = []
    for line in program.lines:
        if begins_block(line, kind, name):
            for key, new in table.items():
                lines.extend(instance_lines(block_lines, (kind, new), key))
        elif line.above != block_lines[0].at:
            lines.append(line)
    changed = [changed_line(line, lambda part: split_expression(part, kind, name, table)) for line in lines]
    moved = {address_at(f"{kind}.{name}", key): f"{kind}.{new}" for key, new in zip(keys, names)}
    pairs = [(address, moved.get(address, address)) for address in wished_addresses(program)]
    return new_program(program.kinds, changed), tuple(pairs)


def check_module_name(program, module):
    """Raises BadName or Taken unless any value may be the name of a new module."""
    if not is_name(module):
        raise BadName(module)
    if module in program.outline.homes:
        raise Taken(module)


def check_use_name(program, use):
    """Raises BadName or Taken unless any value may be the name of a new use."""
    if not is_name(use):
        raise BadName(use)
    root = program.outline.root()
    if use in program.kinds or use in root.lets or use in root.uses:
        raise Taken(use)


def wrapped(program, blocks, module, use):
    """The program with a new module of blocks of the root and one use of it, and the pairs of addresses."""
    for kind, name in blocks:
        check_block(program, kind, name)
    wrapping = Wrapping(program, blocks, use)
    wrapping.check()
    check_module_name(program, module)
    check_use_name(program, use)
    written = [f"{kind}.{name}" for kind, name in blocks]
    pairs = []
    for address in wished_addresses(program):
        pairs.append((address, f"{use}/{address}" if block_of(address) in written else address))
    return new_program(program.kinds, wrapping.new_lines(module)), tuple(pairs)


REFACTORINGS = {"renamed": renamed, "counted": counted, "split": split, "wrapped": wrapped}
