"""Outcomes under a row (point 11), but for leaning."""

import unittest

from laterknown.errors import NoAddress
from laterknown.kinds import read_kinds
from laterknown.outcomes import Outcome, outcome
from laterknown.programs import read_program
from laterknown.states import State, state_of
from laterknown.values import Record
from samples import ANY_VALUES, KINDS, ZONED, lines

ZONE = ("net.z", "zone")


def box(number, size=1, net="none", label=("c",)):
    return (number, Record(size=size, net=net, label=label), Record(id=f"#{number}.id"))


def net(number, value=9, zone="eu"):
    return (number, Record(range=value), Record(id=f"#{number}.id", zone=zone))


def state(**entries):
    """A state with entries at the addresses KIND.NAME, which are written KIND_NAME here."""
    return state_of(KINDS, tuple([(name.replace("_", "."), *entry) for name, entry in entries.items()]))


def actions(found):
    return {address: found[address] for address in found.addresses}


class ZonedTest(unittest.TestCase):
    def found(self, *row, state=State()):
        return outcome(read_program(KINDS, ZONED), state, row)

    def test_the_empty_row(self):
        found = self.found()
        self.assertIsInstance(found, Outcome)
        self.assertEqual(found.addresses, ("box.c", "main/box.b[0]", "main/box.b[1]", "net.z"))
        self.assertEqual(len(found), 4)
        self.assertEqual(set(actions(found).values()), {"make"})
        self.assertEqual(found.fields_of("box.c"), Record(size=1, net="#net.z.id", label=("c",)))
        self.assertEqual(found.fields_of("main/box.b[1]"), Record(size=3, net="none", label=("b", 1)))
        self.assertEqual(found.fields_of("net.z"), Record(range=9))

    def test_other_rows(self):
        found = self.found((ZONE, "eu"))
        self.assertEqual(found.addresses, ("box.c", "box.extra[a]", "main/box.b[0]", "main/box.b[1]", "net.z"))
        self.assertEqual(found.fields_of("box.extra[a]"), Record(size=1, net="#net.z.id", label=("a",)))
        self.assertNotIn("box.extra[a]", self.found((ZONE, "us")))

    def test_pairs_that_nobody_asks_for(self):
        plain = self.found((ZONE, "eu"))
        for pair in ((("box.c", "zone"), "us"), (("", ""), "x"), (("net.z", "id"), "x"), (("net.y", "zone"), "us")):
            found = self.found(*sorted([pair, (ZONE, "eu")]))
            self.assertEqual(actions(found), actions(plain))
            self.assertEqual(found.fields_of("box.c"), plain.fields_of("box.c"))
            self.assertEqual(len(self.found(pair)), 4)

    def test_recorded_answers_of_what_is_kept(self):
        found = self.found((ZONE, "us"), state=state(net_z=net(4, zone="eu")))
        self.assertEqual(actions(found), {
            "box.c": "make", "box.extra[a]": "make", "main/box.b[0]": "make", "main/box.b[1]": "make", "net.z": "none"})
        self.assertEqual(found.fields_of("box.c")["net"], "#4.id")

    def test_answers_of_what_is_replaced(self):
        found = self.found(state=state(net_z=net(4, value=8)))
        self.assertEqual((found["net.z"], found.fields_of("box.c")["net"]), ("ahead", "#net.z.id"))
        self.assertNotIn("box.extra[a]", found)
        self.assertIn("box.extra[a]", self.found((ZONE, "eu"), state=state(net_z=net(4, value=8, zone="us"))))

    def test_equal_calls(self):
        self.assertTrue(self.found((ZONE, "eu")) == self.found((ZONE, "eu")))
        self.assertTrue(self.found() == self.found((ZONE, "us")))
        self.assertFalse(self.found() == self.found((ZONE, "eu")))
        self.assertFalse(self.found() == self.found(state=state(net_z=net(1))))
        # Nothing is alike but for the blocks that cannot be evaluated.
        texts = [f"resource box {name} count 13\n  size 1\n  net 1\n  label 1" for name in "ab"]
        found, other = [outcome(read_program(KINDS, text), State()) for text in texts]
        self.assertEqual((len(found), len(other)), (0, 0))
        self.assertFalse(found == other)
        for value in (*ANY_VALUES, State()):
            self.assertFalse(found == value)

    def test_arguments_by_name(self):
        program, empty = read_program(KINDS, ZONED), State()
        found = outcome(program=program, state=empty, row=((ZONE, "eu"),))
        self.assertEqual(found.fields_of(address="box.extra[a]")["size"], 1)
        self.assertEqual((found.fault_of(address="net.z"), found.is_strict(address="net.z"),
            found.leans(address="net.z")),
                         (None, False, False))


class MethodsTest(unittest.TestCase):
    def test_any_value_as_an_address(self):
        found = outcome(read_program(KINDS, ZONED), state(net_old=net(1)))
        for value in ANY_VALUES + ("box.extra[a]", "box.b", "main/box.b", "net.old ", ("net.z",), {"net.z": 1}):
            is_there = value in ("net.z", "box.c")
            self.assertIs(value in found, is_there, value)
            if not is_there:
                for call in (found.fields_of, found.fault_of, found.is_strict, found.leans, lambda at: found[at]):
                    with self.assertRaises(NoAddress) as caught:
                        call(value)
                    self.assertIs(caught.exception.value, value)
        self.assertIn("net.old", found)
        self.assertIsNone(found.fields_of("net.old"))
        self.assertIs(found.is_strict("net.old"), False)
        self.assertIs(found.leans("net.old"), False)


class ActionsTest(unittest.TestCase):
    def action(self, marks="", given=(1, 1, 1), recorded=(1, 1, 1)):
        """The action of a thing with these set, unique and fixed fields."""
        rows = ["kind thing", "  set s", "  set u", "  fixed f", "  unique u"]
        kinds = read_kinds("\n".join(rows + [f"  {mark}" for mark in marks.split()]))
        text = lines("resource thing t", f"  s {given[0]}", f"  u {given[1]}", f"  f {given[2]}")
        names = ("s", "u", "f")
        entries = (("thing.t", 1, Record(**dict(zip(names, recorded))), Record()),)
        found = outcome(read_program(kinds, text), state_of(kinds, entries))
        self.assertIs(found.leans("thing.t"), False)
        self.assertEqual(found.fields_of("thing.t"), Record(**dict(zip(names, given))))
        return found["thing.t"], found.is_strict("thing.t"), found.fault_of("thing.t")

    def test_kept(self):
        self.assertEqual(self.action(), ("none", False, None))
        self.assertEqual(self.action(given=(2, 1, 1)), ("change", False, None))
        self.assertEqual(self.action(given=(1, 2, 1)), ("change", False, None))
        self.assertEqual(self.action(recorded=(True, 1, 1)), ("change", False, None))

    def test_replaced(self):
        self.assertEqual(self.action(given=(1, 2, 2)), ("ahead", False, None))
        self.assertEqual(self.action(given=(2, 2, 2)), ("ahead", False, None))
        self.assertEqual(self.action(given=(2, 1, 2)), ("behind", True, None))
        self.assertEqual(self.action(recorded=(1, True, True)), ("ahead", False, None))

    def test_marks(self):
        for marks in ("", "held", "token", "held token"):
            self.assertEqual(self.action(marks, given=(1, 2, 2)), ("ahead", False, None), marks)
            self.assertEqual(self.action(marks, given=(1, 1, 2)), ("behind", True, None), marks)
            self.assertEqual(self.action(marks, given=(2, 2, 1)), ("change", False, None), marks)
        for marks in ("single", "single held token"):
            self.assertEqual(self.action(marks, given=(1, 2, 2)), ("behind", True, None), marks)
            self.assertEqual(self.action(marks, given=(2, 2, 1)), ("change", False, None), marks)
        for marks, strict in (("guarded", False), ("guarded single", True)):
            self.assertEqual(self.action(marks), ("none", False, None))
            self.assertEqual(self.action(marks, given=(2, 2, 1)), ("change", False, None), marks)
            self.assertEqual(self.action(marks, given=(1, 2, 2)), ("fault", strict, "guarded"), marks)
            self.assertEqual(self.action(marks, given=(1, 1, 2)), ("fault", True, "guarded"), marks)

    def test_delete(self):
        for marks, action, word in (("", "delete", None), ("\n  guarded", "fault", "guarded")):
            kinds = read_kinds("kind thing\n  set s" + marks)
            entries = (("thing.t", 1, Record(s=1), Record()), ("thing.u", 2, Record(s=1), Record()))
            found = outcome(read_program(kinds, "resource thing u\n  s 2"), state_of(kinds, entries))
            self.assertEqual((found["thing.t"], found.fault_of("thing.t")), (action, word))
            self.assertEqual((found["thing.u"], found.fault_of("thing.u")), ("change", None))

    def test_a_guarded_thing_counts_for_others_as_without(self):
        kinds = read_kinds("kind net\n  fixed range\n  fresh id\n  guarded\nkind box\n  set net")
        program = read_program(kinds, "resource net z\n  range 9\nresource box c\n  net net.z.id")
        entries = (("net.z", 1, Record(range=7), Record(id="#1.id")),)
        found = outcome(program, state_of(kinds, entries))
        self.assertEqual((found["net.z"], found.fault_of("net.z")), ("fault", "guarded"))
        self.assertEqual(found.fields_of("box.c"), Record(net="#net.z.id"))


class FaultsTest(unittest.TestCase):
    def found(self, *rows, marks="", state=None, row=()):
        kinds = read_kinds(lines("kind thing", "  set s", "  fixed u", "  fresh id", "  free zone", "  unique u",
                                 "kind other", "  set u", "  unique u") + marks)
        return outcome(read_program(kinds, lines(*rows)), State() if state is None else state_of(kinds, state), row)

    def thing(self, name, s, u):
        return (f"resource thing {name}", f"  s {s}", f"  u {u}")

    def words(self, found):
        return {address: found.fault_of(address) for address in found.addresses}

    def test_unique_between_wished_addresses(self):
        found = self.found(*self.thing("a", 1, 5), *self.thing("b", 2, 5), *self.thing("c", 1, 6))
        self.assertEqual(self.words(found), {"thing.a": "unique", "thing.b": "unique", "thing.c": None})
        self.assertEqual(found["thing.a"], "fault")
        self.assertEqual(found.fields_of("thing.a"), Record(s=1, u=5))

    def test_alike_values_alone(self):
        found = self.found(*self.thing("a", 1, 1), *self.thing("b", 1, "true"), *self.thing("c", 1, "[1]"))
        self.assertEqual(set(self.words(found).values()), {None})
        found = self.found(*self.thing("a", 1, "[1, true]"), *self.thing("b", 1, "[1] ++ [true]"))
        self.assertEqual(set(self.words(found).values()), {"unique"})

    def test_two_unique_fields(self):
        kinds = read_kinds("kind thing\n  set s\n  fixed u\n  unique s\n  unique u")
        for b, words in (((1, 6), ["unique", "unique"]), ((2, 5), ["unique", "unique"]), ((5, 1), [None, None])):
            text = lines(*self.thing("a", 1, 5), *self.thing("b", *b))
            self.assertEqual(list(self.words(outcome(read_program(kinds, text), State())).values()), words)

    def test_other_kinds_do_not_matter(self):
        found = self.found(*self.thing("a", 1, 5), "resource other b", "  u 5")
        self.assertEqual(set(self.words(found).values()), {None})

    def test_instances_of_one_block(self):
        found = self.found("resource thing a count 3", "  s index", "  u if index < 2 then 0 else index")
        self.assertEqual(self.words(found), {"thing.a[0]": "unique", "thing.a[1]": "unique", "thing.a[2]": None})

    def test_an_address_with_the_fault_evaluate_has_no_values(self):
        found = self.found(*self.thing("a", 1, 5), *self.thing("b", '1 + "a"', 5))
        self.assertEqual(self.words(found), {"thing.a": None, "thing.b": "evaluate"})
        self.assertIsNone(found.fields_of("thing.b"))
        self.assertEqual(found["thing.b"], "fault")

    def test_what_is_not_wished_does_not_matter(self):
        state = (("thing.old", 1, Record(s=1, u=5), Record(id="#1.id", zone="eu")),)
        found = self.found(*self.thing("a", 1, 5), state=state)
        self.assertEqual(self.words(found), {"thing.a": None, "thing.old": None})

    def test_unique_under_some_rows(self):
        rows = (*self.thing("a", 1, 5), *self.thing("b", 1, "[thing.a.zone]"), *self.thing("c", 1, '["eu"]'))
        unique = {"thing.a": None, "thing.b": "unique", "thing.c": "unique"}
        self.assertEqual(self.words(self.found(*rows, row=((("thing.a", "zone"), "eu"),))), unique)
        self.assertEqual(set(self.words(self.found(*rows)).values()), {None})

    def test_the_first_word_is_told(self):
        kinds = read_kinds("kind thing\n  set s\n  fixed u\n  unique u\n  guarded")
        entries = tuple([(f"thing.{name}", at + 1, Record(s=1, u=at), Record()) for at, name in enumerate("abcd")])
        rows = (*self.thing("a", 1, 5), *self.thing("b", 2, 5), *self.thing("c", '1 + "a"', 5), *self.thing("d", 1, 6))
        found = outcome(read_program(kinds, lines(*rows)), state_of(kinds, entries))
        self.assertEqual(self.words(found), {
            "thing.a": "unique", "thing.b": "unique", "thing.c": "evaluate", "thing.d": "guarded"})

    def test_a_unique_address_counts_for_others_as_without(self):
        rows = (*self.thing("a", 1, 5), *self.thing("b", 2, 5), *self.thing("c", "thing.a.id", 6))
        found = self.found(*rows)
        self.assertEqual(found.fields_of("thing.c"), Record(s="#thing.a.id", u=6))
        state = (("thing.a", 4, Record(s=1, u=5), Record(id="#4.id", zone="eu")),)
        found = self.found(*rows, state=state)
        self.assertEqual(found.fields_of("thing.c"), Record(s="#4.id", u=6))
        self.assertEqual(found["thing.a"], "fault")

    def test_what_names_a_faulty_address(self):
        bad = self.thing("a", '1 + "a"', 5)
        for text in ("thing.a.id", "thing.a.zone", "thing.a.s", "[thing.a.id]", "[thing.a.s][0]"):
            found = self.found(*bad, *self.thing("b", text, 6))
            self.assertEqual(self.words(found), {"thing.a": "evaluate", "thing.b": "evaluate"}, text)
        found = self.found(*bad, *self.thing("b", "thing.a.u", 6), *self.thing("c", "thing.b.id", 7))
        self.assertEqual(self.words(found), {"thing.a": "evaluate", "thing.b": None, "thing.c": None})
        self.assertEqual(found.fields_of("thing.b"), Record(s=5, u=6))

    def test_recorded_answers_do_not_help_a_faulty_address(self):
        state = (("thing.a", 4, Record(s=1, u=5), Record(id="#4.id", zone="eu")),)
        found = self.found(*self.thing("a", '1 + "a"', 5), *self.thing("b", "thing.a.id", 6), state=state)
        self.assertEqual(self.words(found), {"thing.a": "evaluate", "thing.b": "evaluate"})
        self.assertEqual((found.is_strict("thing.a"), found.leans("thing.a")), (False, False))
        found = self.found(*self.thing("a", '1 + "a"', 6), state=state)
        self.assertEqual((found["thing.a"], found.is_strict("thing.a")), ("fault", False))


class AnswersTest(unittest.TestCase):
    def test_free_answers_of_a_changed_thing_are_recorded(self):
        kinds = read_kinds("kind net\n  set size\n  free zone\n  free host")
        rows = ("resource net a", "  size 2", "resource net b", "  size [net.a.zone, net.a.host]")
        entries = (("net.a", 7, Record(size=1), Record(zone="eu", host="")),)
        row = ((("net.a", "host"), "x"), (("net.a", "zone"), "us"))
        found = outcome(read_program(kinds, lines(*rows)), state_of(kinds, entries), row)
        self.assertEqual(found.fields_of("net.b"), Record(size=("eu", "")))
        found = outcome(read_program(kinds, lines(*rows)), State(), row[:1])
        self.assertEqual(found.fields_of("net.b"), Record(size=("?net.a.zone", "x")))

    def test_an_address_that_is_replaced_under_some_rows(self):
        kinds = read_kinds("kind net\n  fixed range\n  fresh id\n  free zone")
        rows = ("resource net a", "  range 1", "resource net b", '  range net.a.zone == "eu"',
                "resource net c", "  range [net.b.id, net.b.zone]")
        entries = (("net.b", 1, Record(range=True), Record(id="#1.id", zone="x")),
                   ("net.c", 2, Record(range=("#1.id", "x")), Record(id="#2.id", zone="y")))
        program, state = read_program(kinds, lines(*rows)), state_of(kinds, entries)
        found = outcome(program, state, ((("net.a", "zone"), "eu"), (("net.b", "zone"), "z")))
        self.assertEqual(actions(found), {"net.a": "make", "net.b": "none", "net.c": "none"})
        found = outcome(program, state, ((("net.a", "zone"), "us"), (("net.b", "zone"), "z")))
        self.assertEqual(actions(found), {"net.a": "make", "net.b": "ahead", "net.c": "ahead"})
        self.assertEqual(found.fields_of("net.c"), Record(range=("#net.b.id", "z")))


if __name__ == "__main__":
    unittest.main()
