"""Kinds, programs and states made by chance, the same ones for the same seed."""

import random

from laterknown.kinds import read_kinds
from laterknown.programs import read_program
from laterknown.states import Entry, State, state_of
from laterknown.values import Record
from slowly import Slow, kind_name

TEXTS = ("eu", "us", "a")


def random_kinds(chance):
    """Three kinds: nets with a free answer, boxes and disks; all of them have the same fields."""
    rows = []
    for name in ("net", "box", "disk"):
        rows.append(f"kind {name}")
        rows += ["  fixed range", "  set size", "  set mark", "  fresh id"]
        if name == "net":
            rows.append("  free zone")
        if chance.random() < (0.7 if name == "net" else 0.3):
            rows.append("  held")
        if chance.random() < 0.25:
            rows.append("  single")
        if chance.random() < 0.15:
            rows.append("  guarded")
        if chance.random() < 0.4:
            rows.append(f"  unique {chance.choice(('mark', 'mark', 'range'))}")
    return read_kinds("\n".join(rows))


KEYS = {"a": '["a"]', "b": '["b"]', "": "[]"}


class Writer:
    """Writes a program: each block names the earlier ones alone."""

    def __init__(self, chance, nets, boxes):
        self.chance = chance
        self.earlier = []
        self.rows = []
        for name in "abn"[:nets]:
            self.write_block("net", name, "")
        for name in "cdef"[:boxes]:
            self.write_block(chance.choice(("box", "box", "disk")), name, chance.choice(("", "", "", "count", "each")))
        if chance.random() < 0.3:
            self.write_module()
        for _ in range(chance.choice((0, 0, 1, 2))):
            self.rows.append(f"deny {chance.choice(('net', 'box', 'disk'))} {self.rule()}")

    def write_block(self, kind, name, how, indent="", condition=None):
        head = f"{indent}resource {kind} {name}"
        condition = condition or self.condition()
        if how == "count":
            head += f" count {self.chance.choice(('2', '1', f'if {condition} then 1 else 2', self.leaf(), '0'))}"
        if how == "each":
            head += f' each if {condition} then ["a"] else {KEYS[self.chance.choice(("b", ""))]}'
        self.rows.append(head)
        special = {"": None, "count": "index", "each": "each"}[how]
        for field in ("range", "size", "mark"):
            self.rows.append(f"{indent}  {field} {self.value(2, special)}")
        self.earlier.append((kind, name, how))

    def write_module(self):
        given = self.value(1, None)
        outside, self.earlier = self.earlier, []
        self.rows += ["module pair", "  input top"]
        self.write_block("box", "m", self.chance.choice(("", "count")), "  ", "top == 1")
        self.rows += ["  output all [top]", "use pair main", f"  top {given}"]
        self.earlier = outside

    def one_of(self, part):
        """A field or answer of an earlier block."""
        kind, name, how = self.chance.choice(self.earlier)
        if part == "zone" and kind != "net":
            part = "id"
        if not how:
            return f"{kind}.{name}.{part}"
        if self.chance.random() < 0.4:
            return f"{kind}.{name}[*].{part}"
        return f"{kind}.{name}[{0 if how == 'count' else chr(34) + 'a' + chr(34)}].{part}"

    def leaf(self):
        choices = ["1", "2", '"eu"', '"us"', '"a"']
        if self.earlier:
            choices += [self.one_of("id"), self.one_of("id"), self.one_of("zone"), self.one_of("mark")]
        return self.chance.choice(choices)

    def value(self, deep, special):
        roll = self.chance.random()
        if special and roll < 0.25:
            return special
        if special and roll < 0.35:
            return f"[{special}, {self.leaf()}]"
        if deep == 0 or roll < 0.6:
            return self.leaf()
        if roll < 0.75:
            return f"[{self.value(deep - 1, special)}, {self.leaf()}]"
        return f"if {self.condition()} then {self.value(deep - 1, special)} else {self.value(deep - 1, special)}"

    def condition(self):
        nets = [name for kind, name, _ in self.earlier if kind == "net"]
        if not nets or self.chance.random() < 0.15:
            return f"{self.leaf()} == {self.leaf()}"
        zone = f"net.{self.chance.choice(nets)}.zone"
        return self.chance.choice((
            f'{zone} == "eu"', f'{zone} == "us"', f'{zone} in ["eu", "a"]', f"{zone} == net.{nets[0]}.zone",
            f'not {zone} == "eu"', f'{zone} == "eu" or {self.leaf()} == 1', f"{zone} == {self.leaf()}"))

    def rule(self):
        own = f"own.{self.chance.choice(('range', 'size', 'mark'))}"
        return self.chance.choice((
            f"{own} == {self.leaf()}", f"{own} == {self.leaf()} or {self.condition()}", f"{own} > 1", own,
            f"{own} in [{self.leaf()}, {self.leaf()}]", self.condition()))


def renamed(value, numbers, texts):
    """A value with recorded ids and texts instead of what is to come."""
    if isinstance(value, tuple):
        return tuple(renamed(part, numbers, texts) for part in value)
    if isinstance(value, str) and value[:1] in ("#", "?"):
        address, _, answer = value[1:].rpartition(".")
        if value[0] == "?":
            return texts[address]
        return f"#{numbers.get(address, 99)}.{answer}"
    return value


def changed(chance, value, numbers):
    """Perhaps another value."""
    if chance.random() < 0.65:
        return value
    number = chance.choice([*numbers.values(), 1])
    return chance.choice((1, 2, "eu", "us", "a", True, ("a", 1), f"#{number}.id", (f"#{number}.id", "eu")))


def random_state(chance, kinds, program):
    """A state that a plan may have left behind, with some changes."""
    view = chance.choice(Slow(program, State()).views)
    wished = [address for address, fields in view.fields.items() if fields is not None]
    wished = [address for address in wished if chance.random() < 0.7]
    for address in ("box.gone", "net.gone", "box.d[7]"):
        if chance.random() < 0.25:
            wished.append(address)
    places = wished + [chance.choice(["net.a", "box.old"]) for _ in range(chance.choice((0, 0, 1, 2)))]
    order = list(range(1, len(places) + 1))
    chance.shuffle(order)
    numbers = dict(zip(wished, order))
    texts = {address: chance.choice(TEXTS) for address in [*view.fields, *places]}
    things = []
    for address, number in zip(places, order):
        fields = view.fields.get(address) or Record(range=1, size=2, mark=chance.choice(TEXTS))
        parts = {name: changed(chance, renamed(fields[name], numbers, texts), numbers) for name in fields.names}
        answers = {"id": f"#{number}.id"}
        if kind_name(address) == "net":
            answers["zone"] = texts[address]
        things.append((address, number, Record(**parts), Record(**answers)))
    entries, left = things[:len(wished)], things[len(wished):]
    state = state_of(kinds, tuple(entries))
    return state.renewed(
        {address: state[address] for address in state.addresses},
        tuple((address, Entry(kind_name(address), number, fields, answers))
              for address, number, fields, answers in left), ())


def random_case(seed, nets, boxes):
    """Kinds, a program and a state."""
    chance = random.Random(seed)
    kinds = random_kinds(chance)
    program = read_program(kinds, "\n".join(Writer(chance, nets, boxes).rows))
    return kinds, program, random_state(chance, kinds, program)
