"""Houses: a program, what is recorded of it, and a world in which requests may fail and answers get lost."""

from laterknown.addresses import kind_of
from laterknown.drift import listed_entry
from laterknown.errors import NoProgram, NoRow, NoThing, Recorded, Taken
from laterknown.ledger import Ledger
from laterknown.programs import read_program
from laterknown.recording import entries_of, recorded_numbers, with_entry
from laterknown.refactoring import REFACTORINGS
from laterknown.running import Errand, plan_now
from laterknown.settling import (
    answer_late, candidates_for, claim_row, close_as_not_done, least_row_at, row_under_way, settle_rows, take_back,
)
from laterknown.states import Entry, State


def as_listed(realm, entry):
    """An entry with the fields that are listed."""
    return Entry(entry.kind, entry.number, realm[entry.number].fields, entry.answers)


class House:
    """A program, a state, what was wished before, and a world."""

    def __init__(self, world):
        self._ledger = Ledger(world)

    @property
    def program(self):
        """The program that is wished, None at first."""
        return self._ledger.wished

    @property
    def state(self):
        """What is recorded."""
        return self._ledger.recorded

    @property
    def world(self):
        """The world."""
        return self._ledger.realm

    def wish(self, text):
        """Wishes for another program."""
        self._ledger.wish_for(read_program(self._ledger.realm.kinds, text))

    def move(self, pairs):
        """Renames addresses of the state, all at once."""
        self._ledger.move(pairs)

    def refactor(self, word, *arguments):
        """Refactors the program, and moves the addresses of the state with it."""
        given = self._ledger.wished
        if given is None:
            raise NoProgram()
        work = REFACTORINGS[word]
        made, pairs = work(given, *arguments)
        self._ledger.refactor(made, pairs)

    def undo(self):
        """Takes back the last wish, move or refactoring."""
        self._ledger.undo()

    def plan(self):
        """The plan of the next stage."""
        return plan_now(self._ledger)

    def run(self, plan, troubles=()):
        """Takes the steps of a plan; gives each with the word for what came of it."""
        errand = Errand(self._ledger, plan.steps, troubles)
        for step in plan.steps:
            word = errand.take(step)
            yield step, word
            if errand.has_stopped:
                return

    def settle(self):
        """Closes rows under way by what the world lists."""
        settle_rows(self._ledger)

    def candidates_of(self, row):
        """The things that the make of a row under way, told by its number, may have made."""
        found = row_under_way(self._ledger, row)
        if found is None:
            raise NoRow(row)
        return candidates_for(self._ledger, found)

    def claim(self, address, number):
        """Closes the row under way of an address as done with a candidate."""
        claim_row(self._ledger, address, number)

    def disown(self, address):
        """Closes the row under way of an address as not done."""
        close_as_not_done(self._ledger, least_row_at(self._ledger, address))

    def late(self, row, told):
        """Closes a row, told by its number, by an answer that comes late."""
        answer_late(self._ledger, row, told)

    def takeback(self, address, number):
        """Gives a left thing the entry of its address."""
        take_back(self._ledger, address, number)

    def read(self):
        """Records what the world lists of entries and left things."""
        realm, state = self._ledger.realm, self._ledger.recorded
        entries = {}
        for address, entry in entries_of(state).items():
            if listed_entry(realm, entry) is not None:
                entries[address] = as_listed(realm, entry)
        left = []
        for address, entry in state.left:
            if listed_entry(realm, entry) is not None:
                left.append((address, as_listed(realm, entry)))
        self._ledger.record(State().renewed(entries, tuple(left), state.under_way))

    def take(self, address, number):
        """Records a thing of the world under an address."""
        realm, state = self._ledger.realm, self._ledger.recorded
        if number not in realm:
            raise NoThing(number)
        if number in recorded_numbers(state):
            raise Recorded(number)
        if not isinstance(address, str) or address in state or kind_of(address) != realm[number].kind:
            raise Taken(address)
        self._ledger.record(with_entry(state, address, realm[number]))

    def refresh(self):
        """Settles, then reads."""
        self.settle()
        self.read()

    def doubled(self):
        """A house of its own, as this one is now."""
        made = House(self._ledger.realm)
        made._ledger = self._ledger.doubled()
        return made


class Trial:
    """Gives a house of its own, with which anything may be tried."""

    def __init__(self, house):
        self._house = house

    def __enter__(self):
        return self._house.doubled()

    def __exit__(self, kind, value, trace):
        return False


def tried(house, look):
    """What look returns or raises for a house of its own that is as this one."""
    with Trial(house) as held:
        return look(held)
