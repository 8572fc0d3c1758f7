"""Worlds (section 15) and drift (section 19)."""

import unittest

from laterknown.drift import drift
from laterknown.errors import NoThing, Refused
from laterknown.kinds import read_kinds
from laterknown.states import Entry, State, state_of
from laterknown.values import Record
from laterknown.worlds import World
from samples import ANY_VALUES, lines

KINDS = read_kinds(lines(
    "kind net", "  fixed range", "  set size", "  fresh id", "  fresh name", "  held",
    "kind box", "  set size", "  fixed net", "  fresh id", "  free zone", "  unique size", "  unique net", "  token",
    "kind hub", "  fixed net", "  unique net", "  held",
    "kind pod", "  free zone", "  free host",
    "kind bare"))


def net(range=1, size=1):
    return Record(range=range, size=size)


def box(size=1, net=1):
    return Record(size=size, net=net)


class WorldTest(unittest.TestCase):
    def setUp(self):
        self.world = World(KINDS, free=("eu", "us", "a"))

    def refused(self, call, *arguments):
        """The word of a refusal; it changes nothing."""
        before = self.shown()
        with self.assertRaises(Refused) as caught:
            call(*arguments)
        self.assertEqual(self.shown(), before)
        return caught.exception.value

    def shown(self):
        return [(number, self.world[number].kind, self.world[number].fields.names) for number in self.world.numbers]


class MakeTest(WorldTest):
    def test_numbers_and_answers(self):
        self.assertEqual(self.world.make("net", net()), 1)
        self.assertEqual(self.world.make("box", box()), 2)
        self.assertEqual(self.world.make("pod", Record()), 3)
        self.assertEqual(self.world[1], Entry("net", 1, net(), Record(id="#1.id", name="#1.name")))
        self.assertEqual(self.world[2], Entry("box", 2, box(), Record(id="#2.id", zone="eu")))
        self.assertEqual(self.world[3], Entry("pod", 3, Record(), Record(zone="us", host="a")))
        self.assertEqual(self.world.make("pod", Record()), 4)
        self.assertEqual(self.world[4].answers, Record(zone="", host=""))
        self.assertEqual(self.world.make("bare", Record()), 5)
        self.assertEqual(self.world[5], Entry("bare", 5, Record(), Record()))

    def test_free_answers_that_are_too_few(self):
        world = World(KINDS, free=("eu", "us", "a"))
        for _ in range(2):
            world.make("pod", Record())
        self.assertEqual([world[number].answers["host"] for number in (1, 2)], ["us", ""])
        self.assertEqual([world[number].answers["zone"] for number in (1, 2)], ["eu", "a"])

    def test_no_free_answers(self):
        world = World(KINDS)
        world.make("box", box())
        self.assertEqual(world[1].answers["zone"], "")

    def test_unique(self):
        self.world.make("box", box(1, "a"))
        self.assertEqual(self.refused(self.world.make, "box", box(1, "b")), "unique")
        self.assertEqual(self.refused(self.world.make, "box", box(2, "a")), "unique")
        self.assertEqual(self.refused(self.world.put, "box", box(2, "a")), "unique")
        # Neither a number nor a free answer was taken.
        self.assertEqual(self.world.make("box", box(2, 1)), 2)
        self.assertEqual(self.world[2].answers["zone"], "us")

    def test_values_that_are_not_alike(self):
        self.world.make("box", box(1, "a"))
        self.world.make("box", box(True, 1))
        self.world.make("box", box((1,), ("a",)))
        self.world.make("box", box((True,), (1,)))
        self.assertEqual(self.refused(self.world.make, "box", box((True,), 9)), "unique")
        self.assertEqual(len(self.world), 4)

    def test_values_of_other_fields_and_kinds(self):
        self.world.make("box", box(1, 2))
        self.world.make("hub", Record(net=2))
        self.assertEqual(self.world.make("box", box(2, 1)), 3)
        self.assertEqual(self.refused(self.world.make, "hub", Record(net=2)), "unique")

    def test_numbers_are_never_given_again(self):
        for _ in range(3):
            self.world.make("bare", Record())
        self.world.delete(3)
        self.world.remove(1)
        self.assertEqual(self.world.put("bare", Record()), 4)
        self.world.delete(4)
        self.world.delete(2)
        self.assertEqual((self.world.numbers, self.world.last), ((), 0))
        self.assertEqual(self.world.make("bare", Record()), 5)

    def test_put_and_make(self):
        self.assertEqual([self.world.put("box", box(1, 1)), self.world.make("box", box(2, 2))], [1, 2])
        self.assertEqual([self.world[1].answers["zone"], self.world[2].answers["zone"]], ["eu", "us"])


class TokenTest(WorldTest):
    def test_a_token_that_is_used_twice(self):
        self.assertEqual(self.world.make("box", box(1, 1), 7), 1)
        self.assertEqual(self.world.make("box", box(2, 2), 7), 1)
        self.assertEqual(self.world.make("box", box(1, 1), token=7), 1)
        self.assertEqual((len(self.world), self.world[1].fields), (1, box(1, 1)))
        # A free answer was taken once.
        self.world.make("box", box(2, 2), 8)
        self.assertEqual(self.world[2].answers["zone"], "us")

    def test_a_thing_of_another_kind(self):
        self.world.make("net", net(), 7)
        self.assertEqual(self.world.make("box", box(), 7), 2)
        self.assertEqual(self.world.make("net", net(5), 7), 1)
        self.assertEqual(self.world.make("box", box(5, 5), 7), 2)

    def test_a_kind_without_the_mark(self):
        self.assertEqual([self.world.make("hub", Record(net=3), 1), self.world.make("hub", Record(net=3), 1)], [1, 1])

    def test_behind_the_end_of_the_thing(self):
        self.world.make("box", box(), 7)
        self.world.delete(1)
        self.assertEqual(self.world.make("box", box(), 7), 2)
        self.world.remove(2)
        self.assertEqual(self.world.make("box", box(), 7), 3)
        self.assertEqual(self.world.make("box", box(4, 4), 7), 3)

    def test_without_a_token(self):
        self.world.make("bare", Record(), 7)
        self.assertEqual(self.world.make("bare", Record()), 2)
        self.assertEqual(self.world.make("bare", Record(), None), 3)
        self.assertEqual(self.world.put("bare", Record()), 4)

    def test_a_refused_make_keeps_no_token(self):
        self.world.make("box", box(1, 1))
        self.assertEqual(self.refused(self.world.make, "box", box(1, 2), 7), "unique")
        self.assertEqual(self.world.make("box", box(3, 3), 7), 2)


class ChangeTest(WorldTest):
    def setUp(self):
        super().setUp()
        self.world.make("box", box(1, "a"))
        self.world.make("box", box(2, "b"))
        self.world.make("net", net(1, 1))

    def test_changes(self):
        self.assertIsNone(self.world.change(1, box(5, "a")))
        self.assertEqual(self.world[1], Entry("box", 1, box(5, "a"), Record(id="#1.id", zone="eu")))
        self.assertEqual(self.world.make("box", box(1, "c")), 4)

    def test_alike_values(self):
        self.world.change(1, box(1, "a"))
        self.world.change(3, net(1, True))
        self.assertIs(self.world[3].fields["size"], True)

    def test_words(self):
        self.assertEqual(self.refused(self.world.change, 9, box()), "missing")
        self.assertEqual(self.refused(self.world.change, 1, box(5, "c")), "fixed")
        self.assertEqual(self.refused(self.world.change, 3, net(True, 1)), "fixed")
        self.assertEqual(self.refused(self.world.change, 1, box(2, "a")), "unique")

    def test_the_first_word_is_told(self):
        self.assertEqual(self.refused(self.world.change, 1, box(2, "c")), "fixed")
        self.assertEqual(self.refused(self.world.change, 1, box(2, "b")), "fixed")
        self.world.delete(1)
        self.assertEqual(self.refused(self.world.change, 1, box(2, "c")), "missing")


class DeleteTest(WorldTest):
    def test_what_is_not_there(self):
        self.assertIsNone(self.world.delete(1))
        self.world.make("net", net())
        self.world.delete(1)
        self.assertIsNone(self.world.delete(1))
        self.assertNotIn(1, self.world)

    def test_held(self):
        for value in ("#1.id", "#1.name", ("x", ("#1.name",))):
            self.setUp()
            self.world.make("net", net())
            self.world.make("box", box(net=value))
            self.assertEqual(self.refused(self.world.delete, 1), "held", value)
            self.assertEqual(self.refused(self.world.remove, 1), "held", value)
            self.world.delete(2)
            self.world.delete(1)
            self.assertEqual(len(self.world), 0)

    def test_what_holds_nothing(self):
        self.world.make("net", net())
        self.world.make("box", box(1, "#1.zone"))
        self.world.make("box", box(2, "?1.id"))
        self.world.make("box", box(3, "#11.id"))
        self.world.remove(1)
        self.assertEqual(self.world.numbers, (2, 3, 4))

    def test_its_own_id(self):
        self.world.make("net", net())
        self.world.change(1, net(1, "#1.id"))
        self.world.delete(1)
        self.assertEqual(len(self.world), 0)

    def test_a_kind_that_is_not_held(self):
        self.world.make("box", box())
        self.world.make("net", net(size="#1.id"))
        self.world.delete(1)
        self.assertEqual(self.world.numbers, (2,))

    def test_held_no_longer(self):
        self.world.make("net", net())
        self.world.make("net", net(1, "#1.id"))
        self.assertEqual(self.refused(self.world.delete, 1), "held")
        self.world.alter(2, "size", "#2.id")
        self.world.delete(1)
        self.assertEqual(self.world.numbers, (2,))


class OtherHandsTest(WorldTest):
    def test_alter(self):
        self.world.put("box", box(1, 1))
        self.world.put("box", box(2, 2))
        self.assertIsNone(self.world.alter(1, "net", "new"))
        self.world.alter(1, "size", 1)
        self.assertEqual(self.world[1], Entry("box", 1, box(1, "new"), Record(id="#1.id", zone="eu")))
        self.assertEqual(self.refused(self.world.alter, 1, "net", 2), "unique")
        self.assertEqual(self.refused(self.world.alter, 9, "net", 2), "missing")
        self.world.alter(1, "net", (2,))

    def test_remove(self):
        self.assertEqual(self.refused(self.world.remove, 1), "missing")
        self.world.put("net", net())
        self.assertIsNone(self.world.remove(1))
        self.assertEqual(self.refused(self.world.remove, 1), "missing")


class AskedTest(WorldTest):
    def test_things(self):
        self.assertEqual((len(self.world), self.world.numbers, self.world.last), (0, (), 0))
        for fields in (box(1, 1), box(2, 2)):
            self.world.put("box", fields)
        self.world.put("net", net())
        self.world.put("box", box(3, 3))
        self.assertEqual((len(self.world), self.world.numbers, self.world.last), (4, (1, 2, 3, 4), 4))
        self.assertEqual([self.world.listed(kind) for kind in ("box", "net", "hub")], [(1, 2, 4), (3,), ()])
        self.world.remove(4)
        self.assertEqual((self.world.last, self.world.listed("box")), (3, (1, 2)))
        self.assertIs(self.world.kinds, KINDS)
        self.assertIn(3, self.world)
        self.assertNotIn(4, self.world)

    def test_any_numbers(self):
        self.world.put("box", box())
        for value in (*ANY_VALUES, 2, 0, -1):
            if not (value == 1 and not isinstance(value, bool)):
                self.assertIs(value in self.world, False, value)
                with self.assertRaises(NoThing) as caught:
                    self.world[value]
                self.assertIs(caught.exception.value, value)

    def test_copy(self):
        self.world.make("box", box(1, 1), 7)
        other = self.world.copy()
        self.assertEqual(other.numbers, (1,))
        self.assertEqual(other.make("box", box(5, 5), 7), 1)
        self.assertEqual([other.make("box", box(2, 2)), other.make("box", box(3, 3), 8)], [2, 3])
        self.assertEqual([other[2].answers["zone"], other[3].answers["zone"]], ["us", "a"])
        other.change(1, box(9, 1))
        other.delete(2)
        self.assertEqual((self.world.numbers, self.world[1].fields), ((1,), box(1, 1)))
        self.assertEqual(self.world.make("box", box(4, 4), 8), 2)
        self.assertEqual(self.world[2].answers["zone"], "us")
        self.world.delete(1)
        self.assertEqual(other.numbers, (1, 3))
        self.assertEqual(other.make("box", box(6, 6), 7), 1)
        self.assertEqual(other.make("bare", Record()), 4)

    def test_names_of_arguments(self):
        world = World(kinds=KINDS, free=("x",))
        self.assertEqual(world.make(fields=net(), kind="net"), 1)
        self.assertEqual(world.make(token=3, fields=net(), kind="net"), 2)
        world.change(fields=net(1, 2), number=1)
        self.assertEqual(world.put(fields=net(), kind="net"), 3)
        world.alter(value=5, field="size", number=1)
        world.delete(number=2)
        world.remove(number=3)
        self.assertEqual(world.listed(kind="net"), (1,))
        with self.assertRaises(TypeError):
            World(KINDS, ("x",))


class DriftTest(WorldTest):
    def recorded(self, *entries):
        return state_of(KINDS, tuple((address, number, fields, Record()) for address, number, fields in entries))

    def test_nothing(self):
        self.assertEqual(drift(State(), self.world), ())
        self.world.put("net", net())
        self.assertEqual(drift(self.recorded(("net.a", 1, net())), self.world), ())
        self.assertEqual(drift(State(), self.world), ())

    def test_gone(self):
        self.world.put("net", net())
        state = self.recorded(("net.b", 9, net()), ("net.a", 7, net()), ("net.c", 1, net()))
        self.assertEqual(drift(state, self.world), (("net.a", "gone"), ("net.b", "gone")))

    def test_fields(self):
        self.world.put("net", net(1, 2))
        for recorded, parts in (
                (net(1, 3), (("size", 3, 2),)), (net(2, 2), (("range", 2, 1),)),
                (net("a", (1,)), (("size", (1,), 2), ("range", "a", 1))), (net(True, 2), (("range", True, 1),))):
            found = drift(self.recorded(("net.a", 1, recorded)), self.world)
            self.assertEqual(found, (("net.a", parts),))
            self.assertIs(found[0][1][-1][1], recorded[found[0][1][-1][0]])

    def test_ascending(self):
        for size in range(12):
            self.world.put("bare", Record())
        self.world.put("net", net())
        entries = [(f"bare.b[{at}]", at + 20, Record()) for at in range(11)] + [("net.a", 13, net(5))]
        found = drift(self.recorded(*entries), self.world)
        self.assertEqual([part[0] for part in found], sorted([entry[0] for entry in entries]))

    def test_left_things_do_not_matter(self):
        entry = Entry("net", 8, net(), Record())
        state = State().renewed({}, (("net.a", entry),), ())
        self.assertEqual(drift(state=state, world=self.world), ())


if __name__ == "__main__":
    unittest.main()
