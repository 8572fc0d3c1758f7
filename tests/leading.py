"""Houses that are led by chance through programs, troubles, settling, moves, refactorings and other hands."""

import random

from laterknown.errors import (
    BadProgram, Denied, Doubled, Faulty, LaterError, Loud, NotSingle, NoRoom, Refused, Ring, RingOfNames, Stuck, Taken,
    Unnamed,
)
from laterknown.house import House
from laterknown.kinds import read_kinds, show_kinds
from laterknown.moving import shows_moves, suggested_moves
from laterknown.outcomes import outcome
from laterknown.programs import read_program, show_program
from laterknown.telling import OPEN, Later
from laterknown.texts import read_state, show_state
from laterknown.values import alike
from laterknown.worlds import World
from randomly import TEXTS, Writer, random_kinds

ENDS = (Faulty, Ring, Stuck, Denied)


def kinds_with_tokens(chance):
    """Kinds made by chance, some of them with the mark token."""
    rows = []
    for row in show_kinds(random_kinds(chance)).split("\n"):
        if rows and row.startswith("kind") and chance.random() < 0.4:
            rows.append("  token")
        rows.append(row)
    return read_kinds("\n".join(rows))


class Leader:
    """Leads a house, and looks after each deed whether what the document promises holds."""

    def __init__(self, seed, case):
        self.chance = random.Random(seed)
        self.case = case
        self.seed = seed
        self.kinds = kinds_with_tokens(self.chance)
        free = tuple(self.chance.choice(TEXTS) for _ in range(30))
        self.house = House(World(self.kinds, free=free))
        # Things that other hands have put, or that a person has disowned.
        self.strange = set()

    def about(self):
        return f"seed {self.seed}\n{show_kinds(self.kinds)}\n{show_program(self.house.program)}\n{show_state(self.house.state)}"

    # What holds behind each deed.

    def look(self):
        state = self.house.state
        self.case.assertEqual(read_state(self.kinds, show_state(state)), state, self.seed)
        if self.house.program is not None:
            text = show_program(self.house.program)
            self.case.assertEqual(read_program(self.kinds, text), self.house.program, self.seed)

    def known(self):
        state = self.house.state
        return {state[address].number for address in state.addresses} | {entry.number for _, entry in state.left}

    def check_nothing_twice(self):
        """All things that are there are recorded, or those of other hands."""
        there = set(self.house.world.numbers)
        self.case.assertEqual(there - self.known() - self.strange, set(), self.about())

    # Deeds.

    def wish(self):
        text = "\n".join(Writer(self.chance, self.chance.choice((1, 1, 2)), self.chance.choice((1, 2, 3))).rows)
        try:
            self.house.wish(text)
        except (BadProgram, Doubled, Unnamed, RingOfNames):
            self.case.fail(text)

    def interrupted_run(self):
        words = ("ok", "ok", "ok", "fail", "lost", "void", "crash", "halt")
        troubles = tuple(self.chance.choice(words) for _ in range(self.chance.choice((1, 3, 6))))
        items = self.house.run(self.house.plan(), troubles)
        for step, word in items:
            self.look()
            self.case.assertIn(word, ("done", "open", "failed", "refused", "stale", "denied", "skipped"))
            if self.chance.random() < 0.1:
                return

    def settle(self):
        """Settles, and decides rightly what is not sure."""
        self.house.settle()
        for row in self.house.state.under_way:
            # Rows that stay are makes with candidates; without other hands, these are what was made.
            found = self.house.candidates_of(row.number)
            self.case.assertNotEqual(found, (), self.about())
            self.case.assertEqual(row.step[0], "make")
            if len(found) == 1 and found[0] not in self.strange:
                self.house.claim(row.step[1], found[0])
            else:
                own = [number for number in found if number not in self.strange]
                if own:
                    self.house.claim(row.step[1], own[0])
                else:
                    self.house.disown(row.step[1])
        self.case.assertEqual(self.house.state.under_way, (), self.about())
        self.look()

    def other_hands(self):
        """Another hand does something; it is read again."""
        world = self.house.world
        deed = self.chance.choice(("put", "alter", "remove"))
        try:
            if deed == "put" and world.numbers:
                like = world[self.chance.choice(world.numbers)]
                self.strange.add(world.put(like.kind, like.fields))
            if deed == "alter" and world.numbers:
                number = self.chance.choice(world.numbers)
                world.alter(number, self.chance.choice(("range", "size", "mark")), self.chance.choice((1, 2, "eu", True)))
            if deed == "remove" and world.numbers:
                world.remove(self.chance.choice(world.numbers))
        except Refused:
            pass

    def undo(self):
        try:
            self.house.undo()
        except LaterError as error:
            self.case.assertEqual(error.__class__.__name__, "NothingToUndo")

    def move(self):
        """Makes the suggested moves, if their new addresses are free."""
        found = suggested_moves(self.house.program, self.house.state)
        self.case.assertTrue(shows_moves(self.house.program, self.house.state, found), self.about())
        for pairs, _ in found:
            if pairs:
                self.house.move(pairs)

    def refactor(self):
        blocks = list(self.house.program.outline.root().things)
        if not blocks:
            return
        kind, name = self.chance.choice(blocks)
        word = self.chance.choice(("renamed", "counted", "split", "wrapped"))
        new = "".join(self.chance.choice("xyzuvw") for _ in range(4))
        arguments = {"renamed": (kind, name, new), "counted": (kind, name), "split": (kind, name, (new, new + "q")),
                     "wrapped": (((kind, name),), new, new)}[word]
        try:
            self.house.refactor(word, *arguments)
        except (Loud, NotSingle, NoRoom, Taken):
            pass

    # Stages without trouble.

    def run_stage(self):
        """Runs a stage without trouble: nothing is refused, and each step is as it was told."""
        made = self.house.plan()
        before = self.house.state
        first = outcome(self.house.program, before)
        for step, word in self.house.run(made):
            if self.strange and word in ("refused", "skipped"):
                # What other hands have put holds a thing, or has its unique value.
                return False
            self.case.assertIn(word, ("done", "denied"), self.about())
            if word == "done" and step[0] in ("make", "change"):
                self.check_told(made[step[1]], self.house.state, step[1])
            self.case.assertTrue(step[0] == "drop" or step[1] in first, self.about())
            if word == "denied":
                return False
            self.look()
        return True

    def check_told(self, told, state, address):
        for name in told.names:
            self.check_part(told[name], state[address].fields[name], state)

    def check_part(self, told, value, state):
        if isinstance(told, Later):
            self.case.assertTrue(alike(value, state[told.address].answers[told.answer]), self.about())
        elif isinstance(told, tuple):
            self.case.assertEqual(len(told), len(value), self.about())
            for one, other in zip(told, value):
                self.check_part(one, other, state)
        elif told != OPEN:
            self.case.assertTrue(alike(told, value), self.about())

    def finish(self):
        """Goes on until nothing is to be done; the word for how it ended."""
        state = self.house.state
        stages = 0
        try:
            while len(self.house.plan()):
                if not self.run_stage():
                    return "stopped"
                stages += 1
        except ENDS as error:
            return error.__class__.__name__
        many = len(set(state.addresses) | set(self.house.state.addresses)) + len(state.left)
        self.case.assertLessEqual(stages, many, self.about())
        found = outcome(self.house.program, self.house.state)
        self.case.assertEqual([found[address] for address in found.addresses], ["none"] * len(found), self.about())
        self.case.assertEqual(self.house.state.left, (), self.about())
        self.check_nothing_twice()
        return "ended"
