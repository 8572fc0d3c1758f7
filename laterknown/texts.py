"""States and plans as texts, and how states are read from them."""

from laterknown.addresses import kind_of
from laterknown.errors import BadText
from laterknown.naming import answers_of_kind, fields_of_kind
from laterknown.states import Entry, Row, State
from laterknown.values import is_text
from laterknown.writing import NotWritten, PartReader, read_number, show_record

# The actions that fit the word of a step.
FITTING = {
    "make": ("make", "behind", "ahead"), "change": ("change",), "delete": ("delete", "behind"), "drop": ("drop",),
}


def show_entry(address, entry):
    """How an entry is written."""
    return f"{address} {entry.number} {show_record(entry.fields)} {show_record(entry.answers)}"


def show_step(step):
    """How a step is written."""
    word, place = step
    return f"{word} {place}"


def show_row(row):
    """How a row under way is written."""
    fields = "-" if row.fields is None else show_record(row.fields)
    until = "-" if row.until is None else str(row.until)
    return f"row {row.number} {show_step(row.step)} {row.action} {fields} {row.since} {until}"


def show_state(state):
    """The text of a state."""
    entries = [show_entry(address, state[address]) for address in state.addresses]
    left = ["left " + show_entry(address, entry) for address, entry in state.left]
    return "\n".join([*entries, *left, *[show_row(row) for row in state.under_way]])


def show_planned_step(plan, step):
    """How a step of a plan is written."""
    if step[0] in ("make", "change"):
        return f"{show_step(step)} {show_record(plan[step[1]])}"
    return show_step(step)


def show_plan(plan):
    """The text of a plan."""
    steps = [show_planned_step(plan, step) for step in plan.steps]
    return "\n".join([*steps, *[f"waits {name}" for name in plan.waiting]])


class StateReader:
    """Reads the lines of a state, one behind the other."""

    def __init__(self, kinds):
        self._kinds = kinds
        self.entries = {}
        self.left_ones = []
        self.under = []
        self.used = {}

    def read_line(self, line):
        """Takes up a line; raises NotWritten if it is not so written, or cannot stand behind the others."""
        word, _, rest = line.partition(" ")
        if word == "row":
            self.read_row(rest)
        elif word == "left":
            if self.under:
                raise NotWritten()
            self.read_left(rest)
        else:
            if self.under or self.left_ones:
                raise NotWritten()
            self.read_entry(line)

    def read_entry(self, text):
        """Takes up an entry, whose address has to come behind the others."""
        address, entry = self.entry_in(text)
        if self.entries and address <= max(list(self.entries)):
            raise NotWritten()
        self.entries[address] = entry

    def read_left(self, text):
        """Takes up a left thing, whose number has to come behind the others."""
        address, entry = self.entry_in(text)
        if self.left_ones and entry.number <= self.left_ones[-1][1].number:
            raise NotWritten()
        self.left_ones.append((address, entry))

    def kind_at(self, address):
        """The kind of an address."""
        if kind_of(address) not in self._kinds:
            raise NotWritten()
        return self._kinds[kind_of(address)]

    def entry_in(self, text):
        """The address and the entry that are written in a text."""
        address, _, behind = text.partition(" ")
        kind = self.kind_at(address)
        word, _, rest = behind.partition(" ")
        number = read_number(word, 1)
        if number in self.used:
            raise NotWritten()
        self.used[number] = True
        reader = PartReader(rest, 0)
        fields = reader.read_record(fields_of_kind(kind))
        reader.pass_by(" ")
        answers = reader.read_record(answers_of_kind(kind))
        reader.check_end()
        check_answers(kind, number, answers)
        return address, Entry(kind.name, number, fields, answers)

    def read_row(self, text):
        """Takes up a row under way, whose number has to come behind the others."""
        words = text.split(" ", 4)
        if len(words) < 5 or words[1] not in FITTING or words[3] not in FITTING[words[1]]:
            raise NotWritten()
        number = read_number(words[0], 1)
        if self.under and number <= self.under[-1].number:
            raise NotWritten()
        step = self.step_in(words[1], words[2])
        reader = PartReader(words[4], 0)
        fields = self.fields_in(reader, step)
        reader.pass_by(" ")
        since, _, until = reader.text[reader.at:].partition(" ")
        last = None if until == "-" else read_number(until, 0)
        self.under.append(Row(number, step, words[3], fields, read_number(since, 0), last))

    def step_in(self, word, place):
        """The step that is written with these words."""
        if word == "drop":
            return (word, read_number(place, 1))
        self.kind_at(place)
        return (word, place)

    def fields_in(self, reader, step):
        """The requested fields that are due for a step."""
        if step[0] in ("make", "change"):
            return reader.read_record(fields_of_kind(self.kind_at(step[1])))
        reader.pass_by("-")
        return None

    def whole(self):
        """The state of all lines."""
        return State().renewed(self.entries, tuple(self.left_ones), tuple(self.under))


def check_answers(kind, number, answers):
    """Raises NotWritten unless these are answers of a thing of this number."""
    for name in kind.fresh_answers:
        if answers[name] != f"#{number}.{name}":
            raise NotWritten()
    if not all([is_text(answers[name]) for name in kind.free_answers]):
        raise NotWritten()


def read_state(kinds, text):
    """The state that is written in a text."""
    if not isinstance(text, str):
        raise BadText(0)
    reader = StateReader(kinds)
    if text != "":
        for at, line in enumerate(text.split("\n")):
            try:
                reader.read_line(line)
            except NotWritten:
                raise BadText(at) from None
    return reader.whole()
