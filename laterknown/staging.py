"""Which addresses and left things are in a stage, whatever the answers are."""

from laterknown.cases import DELETING, GIVING, MAKING
from laterknown.errors import Faulty, Ring, Stuck, Unsettled
from laterknown.ordering import Order, steps_in_order
from laterknown.prospects import prospect_of
from laterknown.rings import nodes_on_rings, ring_in
from laterknown.surveys import settled_survey


def common_deed(cases, address):
    """The action that an address has in all cases, no word if it is not the same."""
    deeds = {case.standings[address].deed if address in case.standings else "": True for case in cases}
    return list(deeds)[0] if len(deeds) == 1 else ""


class Stage:
    """The addresses of a stage with their actions (deeds), and the numbers of the things that it drops.

    The prospects are those of all addresses that could get new fields in it. The rounds are the orders of steps
    that had rings, each a dict of steps with those behind which they must come. The sequence are the steps in
    the end.
    """

    def __init__(self, survey):
        self.survey = survey
        self.things = survey.things
        self.met = {address: True for case in survey.cases for address in case.standings}
        self.deeds = {}
        for address in self.met:
            deed = common_deed(survey.cases, address)
            if deed not in ("", "fault"):
                self.deeds[address] = deed
        self.prospects = {address: prospect_of(address, survey.cases) for address in self.giving()}
        self.drops = {number: True for number, thing in self.things.table.items() if self.may_end(thing)}
        self.rounds = []
        self.sequence = ()

    def may_end(self, thing):
        """Whether a thing is left, or will be when a new one is made."""
        return thing.is_left or self.deeds.get(thing.place, "") == "ahead"

    def agree(self, address, pairs):
        """Whether all rows that agree on these free answers give an address alike fields."""
        if not self.prospects[address].varies:
            return True
        sorts = {}
        for case, sort in zip(self.survey.cases, self.prospects[address].sorts):
            if sorts.setdefault(tuple([case.row[pair] for pair in pairs]), sort) != sort:
                return False
        return True

    def gives(self, address, name):
        """Whether the stage gives an address a new value of a unique field under some row."""
        return self.deeds[address] in MAKING or name in self.prospects[address].touched

    def ending_step(self, number):
        """The step by which a thing ends in this stage, None if it does not."""
        place = self.things.table[number].place
        if number in self.drops:
            return ("drop", number)
        if not self.things.table[number].is_left and self.deeds.get(place, "") in DELETING:
            return ("delete", place)
        return None

    def changes(self, number):
        """Whether a thing is changed in this stage."""
        thing = self.things.table[number]
        return not thing.is_left and self.deeds.get(thing.place, "") == "change"

    def step_of_letting(self, holder, number):
        """The step by which one thing lets another one go in this stage, None if it does not."""
        place = self.things.table[holder].place
        if self.changes(holder) and number not in self.prospects[place].holding:
            return ("change", place)
        return self.ending_step(holder)

    def step_of_giving_up(self, number, name):
        """The step by which a thing gives up its recorded value of a field, None if it stays."""
        place = self.things.table[number].place
        if self.changes(number) and name in self.prospects[place].altered:
            return ("change", place)
        return self.ending_step(number)

    def is_let_go(self, number):
        """Whether a thing may be deleted: it is not of a held kind, or each holder lets it go in this stage."""
        if not self.things.of_kind[number].held:
            return True
        return all([self.step_of_letting(holder, number) is not None for holder in self.things.holders[number]])

    def is_known(self, address):
        """Whether the new fields of an address hang on nothing that the stage does not make."""
        if not all([further in self.deeds for further in self.prospects[address].coming]):
            return False
        pairs = [pair for pair in self.survey.asked.choices if self.deeds.get(pair[0], "") in MAKING]
        return self.agree(address, pairs)

    def has_room(self, address):
        """Whether no thing that stays has a unique value that the stage gives an address."""
        meeting = [met for met in self.prospects[address].meeting if self.gives(address, met[0])]
        return all([self.step_of_giving_up(number, name) is not None for name, number in meeting])

    def may_stay(self, address):
        """Whether an address need not leave the stage."""
        deed = self.deeds[address]
        if deed in DELETING and not self.is_let_go(self.things.number_at(address)):
            return False
        return deed not in GIVING or (self.is_known(address) and self.has_room(address))

    def leave(self, addresses, numbers):
        """Takes addresses and drops out of the stage, and the drops of what is not replaced then."""
        self.deeds = {address: deed for address, deed in self.deeds.items() if address not in addresses}
        kept = [number for number in self.drops if number not in numbers]
        self.drops = {number: True for number in kept if self.may_end(self.things.table[number])}

    def shrink(self):
        """Takes out of the stage what has to leave it, until nothing has to."""
        has_shrunk = True
        while has_shrunk:
            addresses = [address for address in self.deeds if not self.may_stay(address)]
            numbers = [number for number in self.drops if not self.is_let_go(number)]
            self.leave(addresses, numbers)
            has_shrunk = bool(addresses) or bool(numbers)

    def settle(self):
        """Finds the greatest stage whose steps have an order, and this order."""
        self.shrink()
        behind = Order(self).behind
        steps = nodes_on_rings(behind)
        while steps:
            self.rounds.append(behind)
            numbers = [step[1] for step in steps if step[0] == "drop"]
            self.leave([step[1] for step in steps if step[0] != "drop"], numbers)
            self.shrink()
            behind = Order(self).behind
            steps = nodes_on_rings(behind)
        self.sequence = steps_in_order(behind)

    def giving(self):
        """The addresses that get new fields in this stage."""
        return [address for address, deed in self.deeds.items() if deed in GIVING]

    def waiting_names(self):
        """What is neither in the stage nor has nothing to do, ascending."""
        names = {address: True for address in self.met if address not in self.deeds}
        for number, thing in self.things.table.items():
            if thing.is_left and number not in self.drops:
                names[f"left {number}"] = True
        for case in self.survey.cases:
            for written, shape in case.shapes.items():
                if shape.is_blocked:
                    names[written] = True
        return tuple(sorted(list(names)))

    def faulty_names(self):
        """The addresses with a fault and the blocks that cannot be evaluated, under all rows, with their words."""
        cases = self.survey.cases
        # The first case is that of the empty row.
        first = cases[0]
        found = {address: standing.word for address, standing in first.standings.items()
                 if common_deed(cases, address) == "fault"}
        for written in first.shapes:
            if all([case.shapes[written].is_blocked for case in cases]):
                found[written] = "evaluate"
        return found


def check_settled(state):
    """Raises Unsettled if a row is under way."""
    if state.under_way:
        raise Unsettled(state.under_way[0].number)


def survey_of(program, state):
    """The survey of a program and a state in which nothing is under way."""
    check_settled(state)
    return settled_survey(program, state)


def settled_stage(survey):
    """The next stage, whether it has steps or not."""
    stage = Stage(survey)
    stage.settle()
    return stage


def stage_in(survey):
    """The next stage, settled; raises what plan raises."""
    stage = settled_stage(survey)
    if not stage.sequence:
        check_nothing_waits(stage)
    return stage


def check_nothing_waits(stage):
    """Raises the error of a stage without steps if something waits."""
    waiting = stage.waiting_names()
    faulty = stage.faulty_names()
    if faulty:
        name = min(list(faulty))
        raise Faulty(name, faulty[name])
    if stage.rounds:
        # In a ring of nodes each one leads to the next one, so here each step comes behind the next one.
        raise Ring(tuple(reversed(list(ring_in(stage.rounds[0])))))
    if waiting:
        raise Stuck(waiting)
