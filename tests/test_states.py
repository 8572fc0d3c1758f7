"""States and their entries (point 10)."""

import unittest

from laterknown.errors import NoAddress
from laterknown.states import Entry, Row, State, state_of
from laterknown.values import Record
from samples import ANY_VALUES, KINDS, outcome_of

NET = ("net.z", 3, Record(range=9), Record(id="#3.id", zone="eu"))
BOX = ("box.c", 1, Record(size=1, net="#3.id", label=("c",)), Record(id="#1.id"))
DEEP = ("main/box.b[10]", 12, Record(size=True, net=1, label="b"), Record(id="#12.id"))
DEEPER = ("main/box.b[2]", 2, Record(size=1, net=1, label="b"), Record(id="#2.id"))


def entry(number=1, **fields):
    return Entry("box", number, Record(**fields), Record(id=f"#{number}.id"))


class StateTest(unittest.TestCase):
    def setUp(self):
        self.state = state_of(KINDS, (NET, BOX, DEEPER, DEEP))

    def test_the_empty_state(self):
        for state in (State(), state_of(KINDS, ())):
            self.assertEqual((len(state), state.addresses, state.left, state.under_way), (0, (), (), ()))
            self.assertEqual(outcome_of(lambda: state["net.z"]), ("NoAddress", "net.z"))
        self.assertEqual(State(), State())

    def test_entries(self):
        self.assertEqual(len(self.state), 4)
        self.assertEqual(self.state.addresses, ("box.c", "main/box.b[10]", "main/box.b[2]", "net.z"))
        found = self.state["main/box.b[10]"]
        self.assertIsInstance(found, Entry)
        self.assertEqual((found.kind, found.number, found.fields, found.answers), ("box", 12, DEEP[2], DEEP[3]))
        self.assertEqual(self.state["net.z"].kind, "net")
        self.assertEqual((self.state.left, self.state.under_way), ((), ()))

    def test_any_value_as_an_address(self):
        for value in ANY_VALUES + ("net", "NET.Z", "box.c ", "main/box.b[1]", ("net.z",), {"net.z": 1}):
            is_there = value in ("net.z", "box.c")
            self.assertIs(value in self.state, is_there, value)
            if not is_there:
                with self.assertRaises(NoAddress) as caught:
                    self.state[value]
                self.assertIs(caught.exception.value, value)

    def test_the_sequence_of_the_entries_does_not_matter(self):
        for entries in ((BOX, NET, DEEP, DEEPER), (DEEP, DEEPER, BOX, NET)):
            self.assertTrue(state_of(KINDS, entries) == self.state)
            self.assertFalse(state_of(KINDS, entries) != self.state)

    def test_arguments_by_name(self):
        self.assertEqual(state_of(kinds=KINDS, entries=(BOX, NET, DEEP, DEEPER)), self.state)

    def test_other_states(self):
        address, number, fields, answers = DEEP
        for other in (
                None, ("main/box.b[11]", number, fields, answers), (address, 13, fields, answers),
                (address, number, fields | Record(size=1), answers),
                (address, number, fields | Record(label=("b",)), answers),
                (address, number, fields, Record(id="#1.id")), (address, number, fields, answers | Record(more=1))):
            entries = (NET, BOX, DEEPER) if other is None else (NET, BOX, DEEPER, other)
            self.assertFalse(state_of(KINDS, entries) == self.state, other)
            self.assertTrue(state_of(KINDS, entries) != self.state, other)

    def test_beside_any_value(self):
        for value in ANY_VALUES + (self.state["net.z"], self.state["net.z"].fields):
            self.assertFalse(self.state == value)
            self.assertFalse(State() == value)

    def test_it_keeps_left_things_and_rows(self):
        entries = {address: self.state[address] for address in self.state.addresses}
        left = (("box.c", entry(20, a=1)), ("net.x", entry(4, a=True)))
        rows = (Row(2, ("drop", 4), "drop", None, 7, None), Row(1, ("make", "box.x"), "make", Record(a=1), 7, 8))
        state = self.state.renewed(entries, left, rows)
        self.assertEqual([pair[1].number for pair in state.left], [4, 20])
        self.assertEqual([row.number for row in state.under_way], [1, 2])
        self.assertEqual((state.addresses, len(state)), (self.state.addresses, 4))
        self.assertEqual(state, self.state.renewed(entries, left[::-1], rows[::-1]))
        for other in (
                self.state, self.state.renewed(entries, left, ()), self.state.renewed(entries, (), rows),
                self.state.renewed({}, left, rows), self.state.renewed(entries, left[:1], rows),
                self.state.renewed(entries, (("box.d", left[0][1]), left[1]), rows),
                self.state.renewed(entries, (left[0], ("net.x", entry(4, a=1))), rows),
                self.state.renewed(entries, left, rows[:1])):
            self.assertFalse(state == other)
        self.assertEqual(self.state.left, ())


class EntryTest(unittest.TestCase):
    def test_equality(self):
        one = Entry("box", 1, Record(a=1), Record(id="#1.id"))
        self.assertTrue(one == Entry("box", 1, Record(a=1), Record(id="#1.id")))
        for other in (
                Entry("net", 1, Record(a=1), Record(id="#1.id")), Entry("box", 2, Record(a=1), Record(id="#1.id")),
                Entry("box", 1, Record(a=True), Record(id="#1.id")), Entry("box", 1, Record(), Record(id="#1.id")),
                Entry("box", 1, Record(a=1), Record(id="#2.id")), *ANY_VALUES, State()):
            self.assertFalse(one == other)
            self.assertTrue(one != other)


class RowTest(unittest.TestCase):
    PARTS = (1, ("make", "net.z"), "ahead", Record(range=1), 4, None)

    def test_properties(self):
        row = Row(*self.PARTS)
        self.assertEqual((row.number, row.step, row.action, row.fields, row.since, row.until), self.PARTS)

    def test_equality(self):
        row = Row(*self.PARTS)
        self.assertTrue(row == Row(*self.PARTS))
        for at, other in enumerate((2, ("make", "net.y"), "make", Record(range=True), 5, 4)):
            self.assertFalse(row == Row(*self.PARTS[:at], other, *self.PARTS[at + 1:]), other)
        self.assertFalse(row == Row(*self.PARTS[:3], None, *self.PARTS[4:]))
        for value in ANY_VALUES:
            self.assertFalse(row == value)


if __name__ == "__main__":
    unittest.main()
