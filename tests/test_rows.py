"""Guarantee (a) of point 3: what a plan says holds under all rows of answers."""

import itertools
import unittest

from laterknown.outcomes import outcome
from laterknown.stages import plan
from laterknown.telling import OPEN, Later, judged
from samples import same
from staged import block, staged_program, staged_state, thing

TEXTS = (None, "eu", "us", "old", "new-0", "new-1", "zz")


def rows_of(*pairs):
    """All rows in which each of these answers is not listed or one of the texts."""
    for texts in itertools.product(TEXTS, repeat=len(pairs)):
        yield tuple([(pair, text) for pair, text in zip(pairs, texts) if text is not None])


class RowsTest(unittest.TestCase):
    def holds(self, told, value, row):
        """Whether what is told of a value holds under a row."""
        if isinstance(told, Later):
            later = dict(row).get((told.address, told.answer), f"?{told.address}.{told.answer}")
            return value == (later if told.answer == "zone" else f"#{told.address}.{told.answer}")
        if isinstance(told, tuple):
            return len(told) == len(value) and all(self.holds(*pair, row) for pair in zip(told, value))
        return told == OPEN or same(told, value)

    def check(self, rows, entries, *pairs):
        """Checks the plan under all rows of these answers, and that nothing more could be said."""
        program, state = staged_program(*rows), staged_state(entries)
        made = plan(program, state)
        words = {(address, at): word for address, at, word in judged(program, state)}
        seen = {}
        changing = {address for word, address in made.steps if word != "drop"}
        for row in rows_of(*pairs):
            found = outcome(program, state, row)
            for address in changing:
                self.assertNotEqual(found[address], "fault")
                seen.setdefault(address, set()).add(found[address])
                if address in made:
                    fields = found.fields_of(address)
                    for name in fields.names:
                        told = made[address][name]
                        self.assertTrue(self.holds(told, fields[name], row), (row, address, name, fields[name]))
                        seen.setdefault((address, name), []).append(fields[name])
            for address in found.addresses:
                if address not in changing and address not in made.waiting:
                    self.assertEqual(found[address], "none")
        for address in changing:
            self.assertEqual(len(seen[address]), 1)
            for name in made[address].names if address in made else ():
                values = seen[address, name]
                self.assertEqual(made[address][name] == OPEN, not all(
                    isinstance(value, tuple) and len(value) == len(values[0]) for value in values) and not all(
                    same(value, values[0]) for value in values) and not isinstance(made[address][name], Later))
        return made, words

    NETS = (*block("net", "y"), *block("net", "z"))
    Y, Z, X = ("net.y", "zone"), ("net.z", "zone"), ("net.x", "zone")

    def test_two_answers(self):
        rows = (*self.NETS, *block("box", "a", u="1", h="net.y.zone == net.z.zone"),
                *block("box", "b", u="2", h='if net.y.zone == net.z.zone then net.y.zone else net.z.zone'),
                *block("box", "c", u="3", h='[net.y.zone == "eu" and net.z.zone == "us", 4, net.z.zone]'),
                *block("box", 'd count if net.y.zone == net.z.zone then 2 else 1', u="[index]"),
                'deny box own.h == "eu"', "deny box net.y.zone == net.z.zone", "deny box own.u == 3")
        made, words = self.check(rows, {}, self.Y, self.Z)
        self.assertEqual(made.waiting, ("box.d[1]",))
        self.assertTrue(same(made["box.b"]["h"], Later("net.z", "zone")))
        self.assertTrue(same(made["box.c"]["h"], (OPEN, 4, Later("net.z", "zone"))))
        self.assertEqual([words["box.b", at] for at in range(3)], ["open", "open", "allowed"])
        self.assertEqual([words["box.c", at] for at in range(3)], ["allowed", "open", "denied"])

    def test_texts_of_the_state(self):
        # The recorded field is old, as the answer may be.
        rows = (*self.NETS, *block("box", "a", u="1", h="net.y.zone"), *block("box", "b", u="2", h="[net.y.zone]"),
                *block("box", "c", u="net.z.zone"))
        entries = {"box.a": thing(1, u=1, h="old"), "box.b": thing(2, u=2, h="old"), "box.c": thing(3, u="zz", h=7)}
        made, _ = self.check(rows, entries, self.Y, self.Z)
        self.assertEqual(made.waiting, ("box.a",))
        self.assertIn(("change", "box.c"), made.steps)

    def test_unique_values_of_two_answers(self):
        rows = (*self.NETS, *block("box", "a", u="net.y.zone"), *block("box", "b", u="net.z.zone"),
            *block("box", "c", u='"eu"'),
                *block("box", "d", u="[net.y.zone]"))
        made, _ = self.check(rows, {}, self.Y, self.Z)
        self.assertEqual(made.waiting, ("box.a", "box.b", "box.c"))

    def test_three_answers(self):
        rows = (*self.NETS, *block("net", "x"),
                *block("box", "a", u="1", h="net.y.zone == net.z.zone and net.z.zone == net.x.zone"),
                *block("box", "b", u="2", h="if net.y.zone == net.z.zone then net.z.zone == net.x.zone else true"),
                *block("box", "c", u="3",
                h="if net.y.zone == net.z.zone and net.z.zone == net.x.zone then net.x.zone else net.y.zone"),
                *block("box", "d", u="4", h='net.y.zone in [net.z.zone, net.x.zone, "us"]'),
                *block("box", 'e each if net.x.zone in [net.y.zone, "eu"] then ["k"] else ["k", "l"]', u="[each]"),
                "deny box net.x.zone == net.y.zone and net.y.zone != net.z.zone")
        made, words = self.check(rows, {}, self.X, self.Y, self.Z)
        self.assertEqual(made.waiting, ("box.e[l]",))
        self.assertTrue(same(made["box.c"]["h"], Later("net.y", "zone")))
        self.assertEqual([made[f"box.{name}"]["h"] == OPEN for name in "abcd"], [True, True, False, True])
        self.assertEqual(set(words.values()), {"open"})

    def test_three_answers_that_are_never_alike_all_at_once(self):
        rows = (*self.NETS, *block("net", "x"),
                *block("box", "a", u="1",
                h="net.y.zone == net.z.zone and net.z.zone == net.x.zone and net.y.zone != net.x.zone"),
                *block("box", "b", u="2", h='net.y.zone == "eu" and net.y.zone == net.x.zone and net.x.zone == "us"'))
        made, _ = self.check(rows, {}, self.X, self.Y, self.Z)
        self.assertTrue(same((made["box.a"]["h"], made["box.b"]["h"]), (False, False)))


if __name__ == "__main__":
    unittest.main()
