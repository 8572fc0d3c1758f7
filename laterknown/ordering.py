"""In which order the steps of a stage are taken."""

from laterknown.cases import DELETING, GIVING, MAKING


def steps_of(address, deed):
    """The steps of an address with this action, besides the drop of its old thing."""
    steps = []
    if deed in DELETING:
        steps.append(("delete", address))
    if deed in GIVING:
        steps.append(giving_step(address, deed))
    return steps


def giving_step(address, deed):
    """The step by which an address with this action gets its new fields."""
    return ("change" if deed == "change" else "make", address)


class Order:
    """The steps of a stage, each with those behind which it must come by a rule."""

    def __init__(self, stage):
        self.stage = stage
        self.things = stage.things
        self.behind = {}
        for address, deed in stage.deeds.items():
            for step in steps_of(address, deed):
                self.behind[step] = {}
        for number in stage.drops:
            self.behind[("drop", number)] = {}
        for address, deed in stage.deeds.items():
            self.order_address(address, deed)
        for number in stage.drops:
            self.order_ending(("drop", number), number)

    def put(self, step, earlier):
        """Puts a step behind another one, None for none."""
        if earlier is not None:
            self.behind[step][earlier] = True

    def order_address(self, address, deed):
        """Orders the steps of one address of the stage."""
        if deed in GIVING:
            step = giving_step(address, deed)
            self.order_by_answers(step, address)
            self.order_by_values(step, address)
        if deed in DELETING:
            self.order_ending(("delete", address), self.things.number_at(address))
        if deed == "behind":
            self.put(("make", address), ("delete", address))
        if deed == "change":
            self.order_by_holding(address, self.things.number_at(address))
        if deed == "ahead" and self.things.number_at(address) in self.stage.drops:
            self.put(("drop", self.things.number_at(address)), ("make", address))

    def order_by_answers(self, step, address):
        """Puts a step behind the makes of whose answers it has need."""
        coming = self.stage.prospects[address].coming
        for other, deed in self.stage.deeds.items():
            if deed in MAKING and (other in coming or self.hangs_on(address, other)):
                self.put(step, ("make", other))

    def hangs_on(self, address, other):
        """Whether two rows that differ only in free answers of another address give unlike fields."""
        choices = self.stage.survey.asked.choices
        pairs = [pair for pair in choices if pair[0] != other]
        # Without free answers of the other address there are no two such rows.
        return len(pairs) < len(choices) and not self.stage.agree(address, pairs)

    def order_ending(self, step, number):
        """Puts the end of a thing of a held kind behind the steps by which its holders let it go."""
        if self.things.of_kind[number].held:
            for holder in self.things.holders[number]:
                self.put(step, self.stage.step_of_letting(holder, number))

    def order_by_values(self, step, address):
        """Puts a step that gives a unique value behind the steps by which others give it up."""
        for name, number in self.stage.prospects[address].meeting:
            if self.stage.gives(address, name):
                self.put(step, self.stage.step_of_giving_up(number, name))

    def order_by_holding(self, address, number):
        """Puts a change by which a thing begins to hold others behind the steps by which these let it go."""
        prospect = self.stage.prospects[address]
        begun = [other for other in prospect.holding if other not in self.things.holding[number]]
        for other in self.held_behind([*begun, *prospect.coming]):
            if other in self.things.table and number in self.things.holding[other]:
                self.put(("change", address), self.stage.step_of_letting(other, number))

    def held_behind(self, begun):
        """Things, and what they hold directly or over others.

        Things that there are stand here by their numbers, those that the stage makes by their addresses.
        """
        seen = {thing: True for thing in begun}
        ahead = list(begun)
        while ahead:
            thing = ahead.pop()
            for further in self.held_by_thing(thing):
                if further not in seen:
                    seen[further] = True
                    ahead.append(further)
        return list(seen)

    def held_by_thing(self, thing):
        """What a thing holds that there is, or that the stage makes."""
        if thing in self.things.table:
            return self.things.holding[thing]
        prospect = self.stage.prospects[thing]
        return [*prospect.holding, *prospect.coming]


def steps_in_order(behind):
    """The steps in the order in which each is the least one that can come next."""
    done = {}
    ahead = sorted(list(behind))
    while ahead:
        ready = [step for step in ahead if all([earlier in done for earlier in behind[step]])]
        done[ready[0]] = True
        ahead = [step for step in ahead if step not in done]
    return tuple(done)
