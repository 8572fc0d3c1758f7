"""Evidence, checked slowly and word by word from the document."""

from laterknown.values import alike
from slowly import Slow, strings_of


class SlowWitness(Slow):
    """The views of all rows and the stage, and whether evidence shows."""

    def __init__(self, program, state, new_texts=2):
        Slow.__init__(self, program, state, new_texts)
        self.stage()

    def view_of(self, row):
        wanted = {pair: text for pair, text in row if pair in self.pairs}
        return [view for view in self.views if view.row == wanted][0]

    def is_made(self, address):
        return self.inside.get(address) in ("make", "behind", "ahead")

    def left_number(self, name):
        found = [number for number, thing in self.things.items() if thing[2] and f"left {number}" == name]
        return found[0] if found else None

    def shows(self, name, value):
        """Whether evidence of the right form shows for what waits."""
        word, *parts = [self.with_known_texts(part) for part in value]
        check = getattr(self, "shows_" + word)
        return name in self.waiting() and check(name, *parts)

    def with_known_texts(self, part):
        """A row with the new texts of this program in place of those that stand nowhere else; other parts as they are."""
        if not isinstance(part, tuple) or not part or isinstance(part[0][0], str):
            return part
        return tuple((pair, self.known_text(text)) for pair, text in part)

    def known_text(self, text):
        return text if text in self.texts else self.new_texts[int(text[4:])]

    def shows_actions(self, name, row, other):
        actions = [self.view_of(one).action(name) for one in (row, other)]
        return actions[0] != actions[1]

    def shows_fault(self, name, row):
        view = self.view_of(row)
        return view.action(name) == "fault" or name in view.blocked

    def shows_fields(self, name, row, other):
        for pair in [pair for pair, _ in row + other]:
            if self.is_made(pair[0]) and pair[1] in self.kind(pair[0]).free_answers:
                if dict(row).get(pair) != dict(other).get(pair):
                    return False
        one, like = [self.view_of(each).fields.get(name) for each in (row, other)]
        return one is not None and like is not None and one != like

    def shows_coming(self, name, row, address):
        fields = self.view_of(row).fields.get(name)
        if fields is None or self.is_made(address):
            return False
        return any(text.startswith("#") and text[1:].rpartition(".")[0] == address for text in strings_of(fields))

    def shows_held(self, name, number):
        target = self.left_number(name)
        if target is None:
            if self.common(name) not in ("delete", "behind"):
                return False
            target = self.state[name].number
        if number not in self.things or not self.holds(number, target) or not self.kind(self.things[target][0]).held:
            return False
        return self.lets_go(number, target) is None

    def shows_unique(self, name, row, number):
        action = self.common(name)
        if action not in ("make", "behind", "ahead", "change") or number not in self.things:
            return False
        place, entry, is_left = self.things[number]
        if self.kind(place).name != self.kind(name).name or (place == name and not is_left):
            return False
        for field in self.kind(name).unique_fields:
            new = self.view_of(row).fields[name][field]
            is_new = action != "change" or any(
                not alike(view.fields[name][field], self.state[name].fields[field]) for view in self.views)
            if is_new and alike(new, entry.fields[field]) and self.gives_up(number, field) is None:
                return True
        return False

    def shows_ring(self, name, steps):
        own = [("make", name), ("change", name), ("delete", name), ("drop", self.left_number(name))]
        if len(set(steps)) < len(steps) or not [step for step in steps if step in own]:
            return False
        for behind in self.rings:
            pairs = zip(steps, steps[1:] + steps[:1])
            if all(one in behind and other in behind and one in behind[other] for one, other in pairs):
                return True
        return False
