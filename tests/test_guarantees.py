"""The guarantees (section 3), with houses that are led by chance."""

import unittest

from leading import ENDS, Leader


class GuaranteesTest(unittest.TestCase):
    def lead(self, seed, has_other_hands):
        """Leads a house through programs and troubles; the words for how it ended behind each program."""
        leader = Leader(seed, self)
        found = []
        for _ in range(leader.chance.choice((2, 3, 4))):
            leader.wish()
            leader.look()
            for _ in range(leader.chance.choice((0, 1, 2, 3))):
                self.interrupt(leader)
                if has_other_hands and leader.chance.random() < 0.5:
                    leader.other_hands()
                    leader.house.refresh()
                    leader.look()
            found.append(leader.finish())
        return found

    def interrupt(self, leader):
        """A run with troubles, settled, and perhaps a deed behind it."""
        try:
            leader.interrupted_run()
        except ENDS:
            pass
        leader.settle()
        roll = leader.chance.random()
        if roll < 0.2:
            leader.refactor()
        elif roll < 0.3:
            leader.undo()
        if leader.house.program is None:
            leader.wish()
        elif roll < 0.5:
            leader.move()
        leader.look()

    def test_without_other_hands(self):
        found = [word for seed in range(60) for word in self.lead(seed, False)]
        self.assertGreater(found.count("ended"), 60)

    def test_with_other_hands(self):
        found = [word for seed in range(2000, 2040) for word in self.lead(seed, True)]
        self.assertGreater(found.count("ended"), 40)


if __name__ == "__main__":
    unittest.main()
