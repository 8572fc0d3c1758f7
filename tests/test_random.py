"""Outcomes, plans and what is told, beside those that are found slowly; and that plans hold under all rows."""

import random
import unittest

from laterknown.errors import Faulty, Ring, Stuck
from laterknown.kinds import show_kinds
from laterknown.outcomes import outcome
from laterknown.programs import show_program
from laterknown.stages import plan
from laterknown.telling import OPEN, Later, judged
from randomly import random_case
from samples import same
from slowly import Slow


def planned(program, state):
    """The plan, and what a slow one is compared with."""
    try:
        found = plan(program, state)
        return found, (found.steps, found.waiting)
    except Faulty as error:
        return None, ("Faulty", error.value, error.word)
    except Ring:
        return None, ("Ring", None, None)
    except Stuck as error:
        return None, ("Stuck", error.value, None)


def is_told(part, told):
    """Whether a told part is what was found slowly."""
    if told[0] == "later":
        return isinstance(part, Later) and (part.address, part.answer) == told[1:]
    if told[0] == "value":
        return same(part, told[1])
    if told[0] == "open":
        return part == OPEN
    return isinstance(part, tuple) and len(part) == len(told[1]) and all(is_told(*pair) for pair in zip(part, told[1]))


class RandomTest(unittest.TestCase):
    def check(self, seed, nets, boxes):
        """Compares all that is found for a program and a state made by chance."""
        kinds, program, state = random_case(seed, nets, boxes)
        slow = Slow(program, state, 2 if nets < 3 else 3)
        about = f"seed {seed}\n{show_kinds(kinds)}\n{show_program(program)}"
        for view in random.Random(seed).sample(slow.views, min(3, len(slow.views))):
            self.check_outcome(outcome(program, state, tuple(sorted(view.row.items()))), view, about)
        found, told = planned(program, state)
        self.assertEqual(told, slow.planned(), about)
        if found is not None:
            self.assertEqual(judged(program, state), slow.judged(), about)
            for address in slow.giving():
                for name, part in slow.told(address).items():
                    self.assertTrue(is_told(found[address][name], part), (about, address, name))
            self.assertEqual([address for address in slow.addresses() if address in found], sorted(slow.giving()),
                about)

    def check_outcome(self, found, view, about):
        self.assertEqual(list(found.addresses), view.addresses(), about)
        self.assertEqual(list(found.blocked), sorted(view.blocked), about)
        for address in found.addresses:
            self.assertEqual(
                (found[address], found.fault_of(address), found.is_strict(address), found.leans(address)),
                (view.action(address), view.word(address), view.strict.get(address, False),
                 view.leaning.get(address, False)), (about, view.row, address))
            self.assertEqual(found.fields_of(address), view.fields.get(address), (about, view.row, address))

    def test_small_programs(self):
        for seed in range(120):
            self.check(seed, 1, 1 + seed % 3)

    def test_two_answers(self):
        for seed in range(1000, 1150):
            self.check(seed, 2, 1 + seed % 4)

    def test_three_answers(self):
        for seed in range(2000, 2012):
            self.check(seed, 3, 1 + seed % 2)


if __name__ == "__main__":
    unittest.main()
