"""The outcomes, the stage and what is told of it, found slowly and word by word from the document.

All rows are looked at that differ in anything: each free answer that is asked for is not listed, or any text of
the program or the state, or one of some new texts. Only the values of expressions and the layout of the program
are taken from the package.
"""

import itertools

from laterknown.evaluation import NoValue, Spot, value_of
from laterknown.values import Record, alike


def kind_name(address):
    return address.split("/")[-1].split(".")[0]


def strings_in(value):
    if isinstance(value, tuple):
        return [text for part in value for text in strings_in(part)]
    return [value] if isinstance(value, str) else []


def strings_of(record):
    return [text for name in record.names for text in strings_in(record[name])]


def texts_of(program, state):
    texts = {}
    ahead = [line.expression for line in program.lines if line.expression]
    while ahead:
        form, told, parts = ahead.pop()
        if form == "text":
            texts[told] = True
        ahead += parts
    for entry in [state[address] for address in state.addresses] + [entry for _, entry in state.left]:
        for text in strings_of(entry.fields) + strings_of(entry.answers):
            if text[:1] not in ("#", "?"):
                texts[text] = True
    return list(texts)


class View:
    """All that holds under one row."""

    def __init__(self, slow, row):
        self.slow = slow
        self.layout = slow.program.layout
        self.row = row
        self.fields = {}
        self.blocked = []
        self.leaning = {}
        self.replaced = {}
        self.strict = {}

    def are_alike(self, one, other):
        return alike(one, other)

    def value_at(self, node, spot, expression):
        return value_of(self, spot, expression)

    def instances_of(self, site):
        if not site.block.how:
            return (None,)
        many = value_of(self, Spot(site.ground, None, None), site.block.many)
        if site.block.how == "each":
            if len(set(many)) < len(many):
                raise NoValue()
            return many
        if isinstance(many, bool) or not isinstance(many, int) or many not in range(13):
            raise NoValue()
        return tuple(range(many))

    def address(self, site, key):
        return site.written if key is None else f"{site.written}[{key}]"

    def part_value(self, site, key, part):
        if part in site.field_names:
            return value_of(self, Spot(site.ground, key, None), site.block.given[part])
        address = self.address(site, key)
        if self.fields[address] is None:
            raise NoValue()
        if address in self.slow.state and not self.replaced[address]:
            return self.slow.state[address].answers[part]
        if part in site.of_kind.fresh_answers:
            return f"#{address}.{part}"
        self.slow.asked.add((address, part))
        return self.row.get((address, part), f"?{address}.{part}")

    def settle_fields(self, site):
        try:
            keys = self.instances_of(site)
        except NoValue:
            self.blocked.append(site.written)
            return
        for key in keys:
            try:
                pairs = tuple((name, self.part_value(site, key, name)) for name in site.field_names)
                self.fields[self.address(site, key)] = Record.of(pairs)
            except NoValue:
                self.fields[self.address(site, key)] = None

    def settle_replaced(self, address):
        if self.fields[address] is None or address not in self.slow.state:
            return
        recorded = self.slow.state[address].fields
        kind = self.slow.kind(address)
        unlike = [name for name in kind.fixed_fields if not alike(self.fields[address][name], recorded[name])]
        self.leaning[address] = self.leans(address)
        self.replaced[address] = bool(self.leaning[address] or unlike)
        keeps = [name for name in kind.unique_fields if alike(self.fields[address][name], recorded[name])]
        self.strict[address] = bool(self.replaced[address] and (self.leaning[address] or kind.single or keeps))

    def is_made(self, address):
        return self.fields.get(address) is not None and address not in self.slow.state

    def leans(self, address):
        depth = self.slow.depth
        chosen = [
            other for other in self.slow.held_places(self.slow.state[address].number)
            if other in self.fields and depth(other) < depth(address) and self.strict.get(other)
            and self.slow.kind(other).held]
        if not chosen:
            return False
        while True:
            more = [
                other for other in self.fields if depth(other) < depth(address) and other not in chosen
                and (self.is_made(other) or self.replaced.get(other)) and self.hangs(other, chosen)]
            if not more:
                return self.hangs(address, chosen)
            chosen += more

    def hangs(self, address, chosen):
        for other in chosen:
            for answer in self.slow.kind(other).fresh_answers:
                if f"#{other}.{answer}" in strings_of(self.fields[address]):
                    return True
        for view in self.slow.views:
            differing = [pair for pair in self.slow.pairs if self.row.get(pair) != view.row.get(pair)]
            if all(pair[0] in chosen for pair in differing):
                if view.fields.get(address) != self.fields[address]:
                    return True
        return False

    def word(self, address):
        site = address.split("[")[0] if address.endswith("]") else address
        if site in self.blocked or address in self.fields and self.fields[address] is None:
            return "evaluate"
        kind = self.slow.kind(address)
        for name in kind.unique_fields:
            for other, fields in self.fields.items():
                if address in self.fields and other != address and fields is not None and (
                        kind_name(other) == kind_name(address) and alike(fields[name], self.fields[address][name])):
                    return "unique"
        if kind.guarded and self.bare_action(address) in ("delete", "behind", "ahead"):
            return "guarded"
        return None

    def bare_action(self, address):
        if address not in self.fields:
            return "delete"
        if address not in self.slow.state:
            return "make"
        if self.replaced[address]:
            return "behind" if self.strict[address] else "ahead"
        return "none" if self.fields[address] == self.slow.state[address].fields else "change"

    def action(self, address):
        if address not in self.fields and address not in self.slow.state:
            return None
        return "fault" if self.word(address) else self.bare_action(address)

    def addresses(self):
        return sorted(set(self.fields) | set(self.slow.state.addresses))

    def says(self, expression, address):
        """Whether a rule says true of an address."""
        fields = self.fields[address]
        try:
            value = value_of(self, Spot(self.layout.root(), None, Record() if fields is None else fields), expression)
        except NoValue:
            return True
        return value is not False


class Slow:
    """The views of all rows, and the stage."""

    def __init__(self, program, state, new_texts=2):
        self.program = program
        self.state = state
        self.pairs = []
        self.asked = set()
        used = texts_of(program, state)
        self.new_texts = [text for text in [f"fresh-{at}" for at in range(20)] if text not in used][:new_texts]
        self.texts = used + self.new_texts
        self.things = {state[address].number: (address, state[address], False) for address in state.addresses}
        self.things.update({entry.number: (address, entry, True) for address, entry in state.left})
        self.settle()
        while self.asked - set(self.pairs):
            self.pairs = sorted(self.asked)
            self.settle()

    def kind(self, address):
        return self.program.kinds[kind_name(address)]

    def depth(self, address):
        return self.program.layout.sites[address.split("[")[0]].depth

    def settle(self):
        self.views = []
        for texts in itertools.product([None, *self.texts], repeat=len(self.pairs)):
            row = {pair: text for pair, text in zip(self.pairs, texts) if text is not None}
            self.views.append(View(self, row))
        sites = list(self.program.layout.sites.values())
        for depth in sorted({site.depth for site in sites}):
            for view in self.views:
                for site in sites:
                    if site.depth == depth:
                        view.settle_fields(site)
            for view in self.views:
                for address in list(view.fields):
                    if self.depth(address) == depth:
                        view.settle_replaced(address)
        for view in self.views:
            for kind, expression in self.program.layout.rules:
                for address in view.fields:
                    if kind_name(address) == kind and view.fields[address] is not None:
                        view.says(expression, address)

    def fresh_ids(self, number):
        address, entry, _ = self.things[number]
        return [entry.answers[name] for name in self.kind(address).fresh_answers]

    def holds_in(self, fields, number):
        return any(word in strings_of(fields) for word in self.fresh_ids(number))

    def holds(self, holder, number):
        return holder != number and self.holds_in(self.things[holder][1].fields, number)

    def held_places(self, number):
        found, seen, ahead = set(), {number}, [number]
        while ahead:
            holder = ahead.pop()
            for other in self.things:
                if self.holds(holder, other) and other not in seen:
                    seen.add(other)
                    if self.things[other][2]:
                        ahead.append(other)
                    else:
                        found.add(self.things[other][0])
        return found

    # The stage.

    def addresses(self):
        return sorted({address for view in self.views for address in view.addresses()})

    def common(self, address):
        actions = {view.action(address) for view in self.views}
        return actions.pop() if len(actions) == 1 else None

    def stage(self):
        actions = {address: self.common(address) for address in self.addresses()}
        self.inside = {address: action for address, action in actions.items() if action not in (None, "fault")}
        self.barred = set()
        self.rings = []
        while True:
            self.drops = {number for number, (address, _, is_left) in self.things.items()
                          if (is_left or self.inside.get(address) == "ahead") and number not in self.barred}
            self.shrink()
            self.find_order()
            bad = [step for step in self.steps if step in self.all_behind(step)]
            if not bad:
                break
            self.rings.append(dict(self.behind))
            for word, which in bad:
                if word == "drop":
                    self.barred.add(which)
                else:
                    self.inside.pop(which, None)
        return self.inside, self.drops

    def shrink(self):
        while True:
            gone = [address for address in self.inside if self.leaves(address)]
            lost = [number for number in self.drops if not self.droppable(number)]
            for address in gone:
                del self.inside[address]
            self.drops -= set(lost)
            if not gone and not lost:
                return

    def droppable(self, number):
        address, entry, is_left = self.things[number]
        if not is_left and self.inside.get(address) != "ahead":
            return False
        if not self.kind(address).held:
            return True
        return all(self.lets_go(other, number) for other in self.things if self.holds(other, number))

    def end_step(self, number):
        address, entry, is_left = self.things[number]
        if number in self.drops:
            return ("drop", number)
        if not is_left and self.inside.get(address) in ("delete", "behind"):
            return ("delete", address)
        return None

    def lets_go(self, holder, number):
        address, entry, is_left = self.things[holder]
        if not is_left and self.inside.get(address) == "change":
            if not any(self.holds_in(view.fields[address], number) for view in self.views):
                return ("change", address)
        return self.end_step(holder)

    def gives_up(self, number, name):
        address, entry, is_left = self.things[number]
        if not is_left and self.inside.get(address) == "change":
            if not any(alike(view.fields[address][name], entry.fields[name]) for view in self.views):
                return ("change", address)
        return self.end_step(number)

    def agreeing_unlike(self, address, agree):
        seen = {}
        for view in self.views:
            key = tuple(view.row.get(pair) for pair in self.pairs if agree(pair))
            if seen.setdefault(key, view.fields[address]) != view.fields[address]:
                return True
        return False

    def meetings(self, address):
        """The other things and the unique fields in which the address gets a value that they have recorded."""
        kind = self.kind(address)
        found = set()
        for name in kind.unique_fields:
            if self.inside[address] == "change":
                recorded = self.state[address].fields[name]
                if all(alike(view.fields[address][name], recorded) for view in self.views):
                    continue
            for number, (place, entry, is_left) in self.things.items():
                if kind_name(place) == kind_name(address) and (is_left or place != address):
                    if any(alike(view.fields[address][name], entry.fields[name]) for view in self.views):
                        found.add((number, name))
        return found

    def coming(self, address):
        return {text[1:].rpartition(".")[0] for view in self.views for text in strings_of(view.fields[address])
                if text.startswith("#") and not text[1:].split(".")[0].isdigit()}

    def leaves(self, address):
        action = self.inside[address]
        making = ("make", "behind", "ahead")
        if action in making or action == "change":
            if self.agreeing_unlike(address, lambda pair: self.inside.get(pair[0]) in making):
                return True
            if self.coming(address) - set(self.inside):
                return True
            if any(not self.gives_up(number, name) for number, name in self.meetings(address)):
                return True
        if action in ("delete", "behind") and self.kind(address).held:
            number = self.state[address].number
            return any(not self.lets_go(other, number) for other in self.things if self.holds(other, number))
        return False

    def find_order(self):
        making = ("make", "behind", "ahead")
        self.steps = [("drop", number) for number in self.drops]
        for address, action in self.inside.items():
            if action in making:
                self.steps.append(("make", address))
            if action in ("delete", "behind"):
                self.steps.append(("delete", address))
            if action == "change":
                self.steps.append(("change", address))
        self.behind = {step: set() for step in self.steps}
        for step in self.steps:
            word, which = step
            if word in ("make", "change"):
                for other, action in self.inside.items():
                    if action in making and other != which:
                        if other in self.coming(which) or self.agreeing_unlike(which, lambda pair: pair[0] != other):
                            self.behind[step].add(("make", other))
                for number, name in self.meetings(which):
                    self.behind[step].add(self.gives_up(number, name))
            if word in ("delete", "drop"):
                number = which if word == "drop" else self.state[which].number
                if self.kind(self.things[number][0]).held:
                    for other in self.things:
                        if self.holds(other, number):
                            self.behind[step].add(self.lets_go(other, number))
            if word == "make" and self.inside[which] == "behind":
                self.behind[step].add(("delete", which))
            if word == "drop" and not self.things[which][2]:
                self.behind[step].add(("make", self.things[which][0]))
            if word == "change":
                self.behind[step] |= self.letting_ahead_of(which)

    def new_holds(self, address):
        found = {number for number in self.things for view in self.views
                 if self.holds_in(view.fields[address], number)}
        return found | self.coming(address)

    def letting_ahead_of(self, address):
        first = self.state[address].number
        begun = {thing for thing in self.new_holds(address) if thing in self.coming(address) or
                 not self.holds(first, thing)}
        seen, ahead = set(begun), list(begun)
        while ahead:
            thing = ahead.pop()
            if thing in self.things:
                further = {number for number in self.things if self.holds(thing, number)}
            else:
                further = self.new_holds(thing)
            ahead += further - seen
            seen |= further
        found = {self.lets_go(number, first) for number in seen if number in self.things and self.holds(number, first)}
        return found - {None}

    def all_behind(self, step):
        seen, ahead = set(), [step]
        while ahead:
            for further in self.behind[ahead.pop()]:
                if further not in seen:
                    seen.add(further)
                    ahead.append(further)
        return seen

    def sequence(self):
        done = []
        while len(done) < len(self.steps):
            done.append(min(step for step in self.steps if step not in done and self.behind[step] <= set(done)))
        return tuple(done)

    def waiting(self):
        names = {address for address in self.addresses() if address not in self.inside}
        names |= {f"left {number}" for number, thing in self.things.items() if thing[2] and number not in self.drops}
        names |= {name for view in self.views for name in view.blocked}
        return tuple(sorted(names))

    def planned(self):
        """The steps and what waits, or the name of the error and its values."""
        self.stage()
        if self.steps or not self.waiting():
            return self.sequence(), self.waiting()
        faulty = {address: self.views[0].word(address) for address in self.addresses()
                  if self.common(address) == "fault"}
        for name in self.views[0].blocked:
            if all(name in view.blocked for view in self.views):
                faulty[name] = "evaluate"
        if faulty:
            return "Faulty", min(faulty), faulty[min(faulty)]
        if self.rings:
            return "Ring", None, None
        return "Stuck", self.waiting(), None

    # What is told.

    def giving(self):
        return [address for address in self.inside if self.inside[address] in ("make", "behind", "ahead", "change")]

    def judged(self):
        found = []
        for address in self.giving():
            for at, (kind, expression) in enumerate(self.program.layout.rules):
                if kind == kind_name(address):
                    said = {view.says(expression, address) for view in self.views}
                    found.append((address, at, "open" if len(said) > 1 else "denied" if True in said else "allowed"))
        return tuple(sorted(found))

    def told(self, address):
        records = [view.fields[address] for view in self.views]
        return {name: self.told_part([record[name] for record in records]) for name in records[0].names}

    def told_part(self, values):
        """What is told, with ("later", address, answer) and "open" for what is no value."""
        first = values[0]
        same = all(alike(value, first) for value in values)
        if same and isinstance(first, str) and first.startswith("#") and not first[1:].split(".")[0].isdigit():
            return ("later", *first[1:].rpartition(".")[::2])
        for address, answer in self.pairs:
            pair = (address, answer)
            if all(view.row.get(pair, f"?{address}.{answer}") == value for view, value in zip(self.views, values)):
                return ("later", address, answer)
        coming = [text for text in strings_in(first)
                  if text.startswith("#") and not text[1:].split(".")[0].isdigit()]
        if same and not coming:
            return ("value", first)
        if all(isinstance(value, tuple) for value in values) and len({len(value) for value in values}) == 1:
            return ("parts", [self.told_part([value[at] for value in values]) for at in range(len(first))])
        return ("open",)
