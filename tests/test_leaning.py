"""Which addresses lean (point 11)."""

import unittest

from laterknown.kinds import read_kinds
from laterknown.outcomes import outcome
from laterknown.programs import read_program
from laterknown.states import Entry, State, state_of
from laterknown.values import Record
from samples import lines

MARKS = ("fixed f", "set s", "fresh id", "free zone")


def thing(name, f, s="0", kind="net"):
    return (f"resource {kind} {name}", f"  f {f}", f"  s {s}")


class LeaningTest(unittest.TestCase):
    """All kinds have a fixed field f and a set field s; an entry is (number, f, s)."""

    def found(self, rows, entries, left=(), row=(), marks=(), kinds=None):
        net_marks = ["held", "single", *marks]
        text = lines("kind net", *[f"  {mark}" for mark in (*MARKS, *net_marks)],
                     "kind box", *[f"  {mark}" for mark in MARKS])
        kinds = read_kinds(kinds or text)

        def parts(address, number, f, s):
            return address, number, Record(f=f, s=s), Record(id=f"#{number}.id", zone="old")

        state = state_of(kinds, tuple([parts(address, *entry) for address, entry in entries.items()]))
        kept = [(address, Entry(address[:3], *parts(address, *entry)[1:])) for address, entry in left]
        state = State().renewed({address: state[address] for address in state.addresses}, tuple(kept), ())
        return outcome(read_program(kinds, lines(*rows)), state, row)

    def assert_leans(self, leans, rows, entries, address="box.b", **others):
        found = self.found(rows, entries, **others)
        self.assertIs(found.leans(address), leans)
        if leans:
            self.assertEqual((found[address], found.is_strict(address)), ("behind", True))
        return found

    def test_directly(self):
        rows = (*thing("a", 1), *thing("b", 5, "net.a.id", "box"))
        entries = {"net.a": (1, 0, 0), "box.b": (2, 5, "#1.id")}
        found = self.assert_leans(True, rows, entries)
        self.assertEqual(found["net.a"], "behind")
        # It holds nothing that is strict.
        self.assert_leans(False, rows, {**entries, "box.b": (2, 5, 0)})
        self.assert_leans(False, rows, {**entries, "box.b": (2, 5, "#3.id")})
        self.assert_leans(False, rows, {**entries, "net.a": (1, 1, 0)})
        # Its fields have no answer to come.
        self.assert_leans(False, (*thing("a", 1), *thing("b", 5, "[net.a.f]", "box")), entries)

    def test_ids_in_lists(self):
        rows = (*thing("a", 1), *thing("b", 5, "[1, [net.a.id]]", "box"))
        self.assert_leans(True, rows, {"net.a": (1, 0, 0), "box.b": (2, 5, ((7, "#1.id"),))})

    def test_the_kind_has_to_be_held(self):
        text = lines("kind net", *[f"  {mark}" for mark in (*MARKS, "single")], "kind box",
            *[f"  {mark}" for mark in MARKS])
        rows = (*thing("a", 1), *thing("b", 5, "net.a.id", "box"))
        entries = {"net.a": (1, 0, 0), "box.b": (2, 5, "#1.id")}
        found = self.assert_leans(False, rows, entries, kinds=text)
        self.assertEqual((found["net.a"], found["box.b"]), ("behind", "change"))

    def test_the_held_one_has_to_be_strict(self):
        text = lines("kind net", *[f"  {mark}" for mark in (*MARKS, "held")], "kind box",
            *[f"  {mark}" for mark in MARKS])
        rows = (*thing("a", 1), *thing("b", 5, "net.a.id", "box"))
        entries = {"net.a": (1, 0, 0), "box.b": (2, 5, "#1.id")}
        found = self.assert_leans(False, rows, entries, kinds=text)
        self.assertEqual((found["net.a"], found["box.b"]), ("ahead", "change"))
        # A unique field that is kept makes it strict.
        found = self.assert_leans(True, rows, entries, kinds=text.replace("  held", "  held\n  unique s"))
        self.assertEqual(found["net.a"], "behind")

    def test_free_answers(self):
        entries = {"net.a": (1, 0, 0), "box.b": (2, 5, "#1.id")}
        for value in ("net.a.zone", '[net.a.zone == "eu"]', 'if net.a.zone == "eu" then 1 + "a" else 1'):
            self.assert_leans(True, (*thing("a", 1), *thing("b", 5, value, "box")), entries)
        for value in ("1", '[net.a.zone == "eu"] == [1]', "net.a.f"):
            self.assert_leans(False, (*thing("a", 1), *thing("b", 5, value, "box")), entries)

    def test_not_wished_under_another_row(self):
        rows = (*thing("a", 1), "resource box b each if net.a.zone == \"eu\" then [\"x\"] else []", "  f 5", "  s 1")
        entries = {"net.a": (1, 0, 0), "box.b[x]": (2, 5, "#1.id")}
        row = ((("net.a", "zone"), "eu"),)
        self.assert_leans(True, rows, entries, "box.b[x]", row=row)
        found = self.found(rows, entries)
        self.assertEqual((found["box.b[x]"], found.leans("box.b[x]")), ("delete", False))

    def test_the_fault_evaluate(self):
        rows = (*thing("a", 1), *thing("b", 5, 'if net.a.zone == "eu" then 1 + "a" else 1', "box"))
        entries = {"net.a": (1, 0, 0), "box.b": (2, 5, "#1.id")}
        found = self.found(rows, entries, row=((("net.a", "zone"), "eu"),))
        self.assertEqual((found["box.b"], found.leans("box.b"), found.is_strict("box.b")), ("fault", False, False))

    def test_over_left_things(self):
        rows = (*thing("a", 1), *thing("b", 5, "net.a.id", "box"))
        entries = {"net.a": (1, 0, 0), "box.b": (2, 5, "#3.id")}
        self.assert_leans(True, rows, entries, left=(("box.z", (3, 0, "#1.id")),))
        self.assert_leans(True, rows, entries, left=(("box.z", (3, 0, "#4.id")), ("net.y", (4, ("#1.id",), 0))))
        self.assert_leans(False, rows, entries, left=(("box.z", (3, 0, "#4.id")), ("net.y", (4, 0, 0))))
        self.assert_leans(False, rows, entries, left=(("box.z", (3, 0, 0)),))
        self.assert_leans(False, rows, entries)

    def test_left_things_that_hold_one_another(self):
        rows = (*thing("a", 1), *thing("b", 5, "net.a.id", "box"))
        entries = {"net.a": (1, 0, 0), "box.b": (2, 5, "#3.id")}
        left = (("box.z", (3, 0, "#4.id")), ("box.y", (4, 0, ("#3.id", "#2.id"))))
        self.assert_leans(False, rows, entries, left=left)
        left = (left[0], ("box.y", (4, "#1.id", ("#3.id", "#2.id"))))
        self.assert_leans(True, rows, entries, left=left)

    def test_not_over_entries(self):
        rows = (*thing("a", 1), *thing("b", 5, "net.a.id", "box"), *thing("m", 1, '"m"', "box"))
        entries = {"net.a": (1, 0, 0), "box.b": (2, 5, "#3.id"), "box.m": (3, 1, "#1.id")}
        found = self.assert_leans(False, rows, entries)
        self.assertEqual(found["box.b"], "change")

    def test_a_left_thing_of_the_address_is_not_the_strict_one(self):
        rows = (*thing("a", 1), *thing("b", 5, "net.a.id", "box"))
        entries = {"net.a": (1, 0, 0), "box.b": (2, 5, "#3.id")}
        self.assert_leans(False, rows, entries, left=(("net.a", (3, 0, 0)),))

    def test_over_things_that_are_made_between(self):
        entries = {"net.a": (1, 0, 0), "box.b": (2, 5, "#1.id")}
        for value in ("box.m.id", "[box.m.id]"):
            rows = (*thing("a", 1), *thing("m", 3, "net.a.id", "box"), *thing("b", 5, value, "box"))
            self.assert_leans(True, rows, entries)
        # What is made between names nothing of the strict one.
        rows = (*thing("a", 1), *thing("m", 3, "net.a.f", "box"), *thing("b", 5, "[box.m.id, net.a.f]", "box"))
        self.assert_leans(False, rows, entries)
        # The thing between is kept.
        rows = (*thing("a", 1), *thing("m", 3, "net.a.zone", "box"), *thing("b", 5, "box.m.id", "box"))
        found = self.assert_leans(False, rows, {**entries, "box.m": (3, 3, 0)})
        self.assertEqual(found["box.m"], "change")
        # The thing between is replaced.
        found = self.assert_leans(True, rows, {**entries, "box.m": (3, 4, 0)})
        self.assertEqual(found["box.m"], "ahead")

    def test_over_free_answers_of_things_between(self):
        entries = {"net.a": (1, 0, 0), "box.b": (2, 5, "#1.id")}
        between = thing("m", 3, "net.a.zone", "box")
        rows = (*thing("a", 1), *between, *thing("b", 5, 'box.m.zone == "eu"', "box"))
        self.assert_leans(True, rows, entries)
        rows = (*thing("a", 1), *between, *thing("b", 5, "box.m.f", "box"))
        self.assert_leans(False, rows, entries)

    def test_a_thing_between_that_is_kept_under_this_row(self):
        # The thing between is replaced only if the zone of the net is x; its own zone does not matter else.
        rows = (*thing("a", 1), *thing("m", 'net.a.zone == "x"', "0", "box"),
            *thing("b", 5, 'box.m.zone == "eu"', "box"))
        entries = {"net.a": (1, 0, 0), "box.m": (3, False, 0), "box.b": (2, 5, "#1.id")}
        for zone, leans in (("eu", True), ("us", False)):
            found = self.assert_leans(leans, rows, entries, row=((("box.m", "zone"), zone),))
            self.assertEqual(found["box.m"], "none")
        self.assert_leans(False, rows, entries)
        self.assert_leans(True, rows, entries, row=((("net.a", "zone"), "x"),))

    def test_a_thing_between_that_cannot_be_evaluated(self):
        rows = (*thing("a", 1), *thing("m", 3, "[net.a.id][1]", "box"), *thing("k", 3, "net.a.id", "box"),
                *thing("b", 5, "box.k.id", "box"))
        entries = {"net.a": (1, 0, 0), "box.b": (2, 5, "#1.id")}
        for more in ({}, {"box.m": (3, 3, 0)}):
            found = self.assert_leans(True, rows, {**entries, **more})
            self.assertEqual(found.fault_of("box.m"), "evaluate")

    def test_a_chain_of_things_between(self):
        rows = [*thing("a", 1)]
        for name, before in (("m", "net.a"), ("n", "box.m"), ("o", "box.n")):
            rows += thing(name, 3, f"{before}.id", "box")
        rows += thing("b", 5, "box.o.id", "box")
        entries = {"net.a": (1, 0, 0), "box.b": (2, 5, "#1.id")}
        self.assert_leans(True, rows, entries)
        self.assert_leans(False, rows, {**entries, "box.n": (3, 3, 0)})

    def test_an_address_that_leans_is_strict_for_others(self):
        rows = (*thing("a", 1), *thing("b", 5, "net.a.id"), *thing("c", 6, "net.b.id", "box"))
        entries = {"net.a": (1, 0, 0), "net.b": (2, 5, "#1.id"), "box.c": (3, 6, "#2.id")}
        found = self.assert_leans(True, rows, entries, "box.c")
        self.assertEqual([found.leans("net.a"), found.leans("net.b")], [False, True])
        found = self.found(rows, {**entries, "net.b": (2, 5, 0)})
        self.assertEqual([found["net.b"], found["box.c"], found.leans("box.c")], ["change", "none", False])

    def test_only_what_has_lesser_depth(self):
        # The box does not hang on the net that it holds, though it hangs on another one.
        rows = (*thing("y", 1), *thing("a", 1, "net.y.id"), *thing("b", 5, "net.y.id", "box"))
        entries = {"net.a": (1, 0, 0), "box.b": (2, 5, "#1.id")}
        self.assert_leans(False, rows, entries)
        self.assert_leans(True, rows, {**entries, "net.y": (3, 0, 0), "box.b": (2, 5, ("#1.id", "#3.id"))})

    def test_rows_that_differ_only_in_those_answers(self):
        # The field hangs on net.y.zone alone unless that is eu.
        value = 'if net.y.zone == "eu" then net.a.zone else net.y.zone'
        rows = (*thing("a", 1), *thing("y", 1), *thing("b", 5, value, "box"))
        entries = {"net.a": (1, 0, 0), "box.b": (2, 5, "#1.id")}
        for zone, leans in (("eu", True), ("us", False)):
            self.assert_leans(leans, rows, entries, row=((("net.y", "zone"), zone),))
        self.assert_leans(False, rows, entries)

    def test_an_answer_that_is_equal_to_what_would_stand_there(self):
        # Under eu the field is eu, whatever the other answer is.
        value = 'if net.a.zone == "x" then "eu" else net.y.zone'
        rows = (*thing("a", 1), *thing("y", 1), *thing("b", 5, value, "box"))
        entries = {"net.a": (1, 0, 0), "box.b": (2, 5, "#1.id")}
        for zone, leans in (("eu", False), ("us", True), ("x", True)):
            self.assert_leans(leans, rows, entries, row=((("net.y", "zone"), zone),))
        self.assert_leans(True, rows, entries)

    def test_guarded_and_unique_count_as_without(self):
        rows = (*thing("a", 1), *thing("b", 5, "net.a.id", "box"))
        entries = {"net.a": (1, 0, 0), "box.b": (2, 5, "#1.id")}
        found = self.found(rows, entries, marks=("guarded",))
        self.assertEqual((found["net.a"], found.fault_of("net.a"), found.is_strict("net.a")),
            ("fault", "guarded", True))
        self.assertEqual((found["box.b"], found.leans("box.b")), ("behind", True))
        text = lines("kind net", *[f"  {mark}" for mark in (*MARKS, "held", "single")],
                     "kind box", *[f"  {mark}" for mark in (*MARKS, "guarded")])
        found = self.found(rows, entries, kinds=text)
        self.assertEqual((found["box.b"], found.fault_of("box.b")), ("fault", "guarded"))
        self.assertEqual((found.leans("box.b"), found.is_strict("box.b")), (True, True))
        found = self.found((*rows, *thing("c", 2)), entries, marks=("unique s",))
        self.assertEqual((found.fault_of("net.a"), found.is_strict("net.a"), found["box.b"]),
            ("unique", True, "behind"))


if __name__ == "__main__":
    unittest.main()
