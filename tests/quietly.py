"""Whether two programs are quiet, found slowly over all rows; and states and plans with other names."""

import itertools

from laterknown.errors import Faulty, Ring, Stuck
from laterknown.stages import plan
from laterknown.states import State
from laterknown.telling import Later
from laterknown.values import Record
from slowly import Slow, View, kind_name, texts_of


def with_names(value, names):
    """A value, a step or a told part as written, with other addresses in it."""
    if isinstance(value, tuple):
        return tuple(with_names(part, names) for part in value)
    if isinstance(value, str) and value[:1] in ("#", "?"):
        address, point, answer = value[1:].rpartition(".")
        return value[0] + names.get(address, address) + point + answer
    return value


def view_of(slow, row):
    """The view of one row with the empty state."""
    view = View(slow, row)
    sites = list(slow.program.layout.sites.values())
    for depth in sorted({site.depth for site in sites}):
        for site in sites:
            if site.depth == depth:
                view.settle_fields(site)
    return view


def is_quiet_under(one, other, pairs, row):
    """Whether two programs (Slow ones) are quiet under a row, a dict."""
    view = view_of(one, row)
    leading = [pair for pair in set(pairs) if pair[0] in view.fields]
    names = dict(leading)
    like = view_of(other, {(names[pair[0]], pair[1]): text for pair, text in row.items() if pair[0] in names})
    if sorted(old for old, _ in leading) != sorted(view.fields):
        return False
    if sorted(new for _, new in leading) != sorted(like.fields) or bool(view.blocked) != bool(like.blocked):
        return False
    for old, new in leading:
        fields, others = view.fields[old], like.fields[new]
        if kind_name(old) != kind_name(new) or (fields is None) != (others is None):
            return False
        if view.word(old) != like.word(new):
            return False
        if fields is not None:
            given = Record.of(tuple((name, with_names(fields[name], names)) for name in fields.names))
            if given != others:
                return False
        if denials(view, old) != denials(like, new):
            return False
    return True


def denials(view, address):
    rules = [expression for kind, expression in view.layout.rules if kind == kind_name(address)]
    return sum(view.says(expression, address) for expression in rules)


def loud_rows(one, other, pairs):
    """The rows, dicts, under which two programs are not quiet."""
    slow, like = Slow(one, State()), Slow(other, State())
    backwards = {new: old for old, new in pairs}
    asked = set(slow.pairs) | {(backwards.get(new, new), answer) for new, answer in like.pairs}
    texts = list(dict.fromkeys(texts_of(one, State()) + texts_of(other, State()) + ["fresh-0", "fresh-1", "fresh-2"]))
    found = []
    for told in itertools.product([None, *texts], repeat=len(asked)):
        row = {pair: text for pair, text in zip(sorted(asked), told) if text is not None}
        if not is_quiet_under(slow, like, pairs, row):
            found.append(row)
    return found


def moved_state(state, names):
    """A state with other addresses."""
    entries = {names.get(address, address): state[address] for address in state.addresses}
    return State().renewed(entries, [(names.get(address, address), entry) for address, entry in state.left], ())


def moved_names(names, addresses):
    """The names, ascending, with other addresses where there are some."""
    return tuple(sorted(names.get(address, address) for address in addresses))


def told_with_names(part, names):
    """What is told, with other addresses in it, for a comparison."""
    if isinstance(part, Later):
        return "later", names.get(part.address, part.address), part.answer
    if isinstance(part, tuple):
        return tuple(told_with_names(one, names) for one in part)
    return part.__class__.__name__, part


def planned_with_names(program, state, names):
    """The steps, what is told and what waits, with other names; the word of an error in its place."""
    try:
        found = plan(program, state)
    except (Faulty, Ring, Stuck) as error:
        return error.__class__.__name__
    steps = {(word, which if word == "drop" else names.get(which, which)): which for word, which in found.steps}
    told = {}
    for (word, new), old in steps.items():
        if word in ("make", "change"):
            told[new] = {name: told_with_names(found[old][name], names) for name in found[old].names}
    return sorted(steps, key=str), told, moved_names(names, found.waiting)
