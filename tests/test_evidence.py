"""Evidence for what waits (section 14)."""

import random
import unittest

from laterknown.errors import Faulty, NotWaiting, Ring, Stuck, Unsettled
from laterknown.evidence import shows_why, why
from laterknown.kinds import read_kinds
from laterknown.outcomes import outcome
from laterknown.programs import read_program
from laterknown.stages import plan
from laterknown.states import Row, State
from randomly import random_case
from samples import ANY_VALUES, outcome_of
from staged import block, staged_program, staged_state, thing
from witness import SlowWitness

EU = ((("net.z", "zone"), "eu"),)
US = ((("net.z", "zone"), "us"),)
# A hub that is there with one zone and not with the others.
HUB = ("resource net z", "  f 1", "  u 0", "  h 0",
       'resource hub x each if net.z.zone == "eu" then ["a"] else []', "  f 1", "  u 3", "  h 0")


def of_hub(answer):
    """A value that needs an answer of the hub under some row."""
    return f'if net.z.zone == "eu" then hub.x["a"].{answer} else "none"'


class Evidence(unittest.TestCase):
    def given(self, rows, entries=None, left=()):
        self.program = staged_program(*rows)
        self.state = staged_state(entries or {}, left)

    def shows(self, waiting, *value):
        return shows_why(self.program, self.state, waiting, value)

    def check_found(self, waiting, *value):
        """What is found is this, and shows."""
        found = why(self.program, self.state, waiting)
        self.assertEqual(found, value)
        self.assertIs(shows_why(self.program, self.state, waiting, found), True)

    def check_word(self, waiting, word):
        """What is found has this word, and shows."""
        found = why(self.program, self.state, waiting)
        self.assertEqual(found[0], word)
        self.assertIs(shows_why(self.program, self.state, waiting, found), True)
        return found


class DocumentTest(unittest.TestCase):
    def test_example(self):
        nets = "kind net\n  fixed range\n  fresh id\n  free zone\n  held\nkind box\n  set net"
        text = ('resource net z\n  range 9\n'
                'resource box c each if net.z.zone == "eu" then ["a"] else []\n  net net.z.id')
        program = read_program(read_kinds(nets), text)
        row = ((("net.z", "zone"), "eu"),)
        found, made = outcome(program, State(), row), plan(program, State())
        self.assertEqual((found["box.c[a]"], made.steps, made.waiting), ("make", (("make", "net.z"),), ("box.c[a]",)))
        self.assertIs(shows_why(program, State(), "box.c[a]", ("actions", (), row)), True)


class ActionsTest(Evidence):
    def setUp(self):
        self.given(HUB)

    def test_found(self):
        found = self.check_word("hub.x[a]", "actions")
        self.assertEqual(len(found), 3)

    def test_in_one_outcome_only(self):
        self.assertTrue(self.shows("hub.x[a]", "actions", (), EU))
        self.assertTrue(self.shows("hub.x[a]", "actions", EU, US))
        self.assertFalse(self.shows("hub.x[a]", "actions", (), US))
        self.assertFalse(self.shows("hub.x[a]", "actions", EU, EU))

    def test_unlike_actions(self):
        self.given(("resource net z", "  f 1", "  u 0", "  h 0", *block("box", "c", "1", "0", of_hub("f")[:-6] + "9"),
                    *HUB[4:]), {"box.c": thing(7, h=9)})
        self.assertTrue(self.shows("box.c", "actions", (), EU))
        self.assertFalse(self.shows("box.c", "actions", (), US))

    def test_pairs_that_nobody_asks_for(self):
        other = ((("net.q", "zone"), "eu"), *EU)
        self.assertTrue(self.shows("hub.x[a]", "actions", (), other))
        self.assertTrue(self.shows("hub.x[a]", "actions", other, US))
        self.assertFalse(self.shows("hub.x[a]", "actions", other, EU))

    def test_what_is_no_row(self):
        pair = ("net.z", "zone")
        for wrong in (
                "eu", None, [], [(pair, "eu")], ((pair, "eu"), (pair, "eu")), ((pair, "eu"), (pair, "us")), (pair,),
                (("net.z", "eu"),), ((pair, 1),), ((pair, "EU"),), ((pair, "#1.id"),), ((pair, "?net.z.zone"),),
                ((pair, "e" * 21),), ((pair, "eu", "eu"),), ((["net.z", "zone"], "eu"),), ((("net.z",), "eu"),),
                ((("net.z", 1), "eu"),), ((pair, "eu"), (("a", "zone"), "eu")), ((pair, None),), (1,), ((),)):
            self.assertIs(self.shows("hub.x[a]", "actions", (), wrong), False, wrong)
            self.assertIs(self.shows("hub.x[a]", "actions", wrong, EU), False, wrong)

    def test_forms(self):
        self.assertFalse(self.shows("hub.x[a]"))
        self.assertFalse(self.shows("hub.x[a]", "actions"))
        self.assertFalse(self.shows("hub.x[a]", "actions", EU))
        self.assertFalse(self.shows("hub.x[a]", "actions", (), EU, US))
        self.assertFalse(self.shows("hub.x[a]", "action", (), EU))
        self.assertFalse(shows_why(self.program, self.state, "hub.x[a]", ["actions", (), EU]))

    def test_what_does_not_wait(self):
        for name in ("net.z", "hub.x", "hub.x[b]", "", "left 1"):
            self.assertFalse(self.shows(name, "actions", (), EU), name)
            self.assertEqual(outcome_of(why, self.program, self.state, name), ("NotWaiting", name))


class FaultTest(Evidence):
    def test_fault_of_an_address(self):
        self.given((*block("box", "c", u='"x"'), *block("box", "d", u='"x"'), *block("net", "a")))
        self.check_found("box.c", "fault", ())
        self.assertTrue(self.shows("box.c", "fault", EU))
        self.assertFalse(self.shows("net.a", "fault", ()))

    def test_fault_under_some_rows(self):
        self.given(("resource net z", "  f 1", "  u 0", "  h 0",
                    *block("box", "c", u='if net.z.zone == "eu" then 1 else true + 1')))
        self.assertTrue(self.shows("box.c", "fault", ()))
        self.assertFalse(self.shows("box.c", "fault", EU))
        self.assertTrue(self.shows("box.c", "actions", US, EU))

    def test_blocked_block(self):
        self.given(("resource net z", "  f 1", "  u 0", "  h 0",
                    *block("box", 'c count if net.z.zone == "eu" then 1 else true')))
        self.assertEqual(plan(self.program, self.state).waiting, ("box.c", "box.c[0]"))
        self.check_word("box.c", "fault")
        self.assertTrue(self.shows("box.c", "fault", ()))
        self.assertFalse(self.shows("box.c", "fault", EU))
        self.assertFalse(self.shows("box.c", "actions", (), EU))
        self.assertTrue(self.shows("box.c[0]", "actions", (), EU))
        self.assertFalse(self.shows("box.c[0]", "fault", ()))

    def test_addresses_of_a_blocked_block(self):
        self.given(block("box", "c count true"), {"box.c[1]": thing(4), "box.c": thing(5)})
        self.check_found("box.c", "fault", ())
        self.check_found("box.c[1]", "fault", ())


class FieldsTest(Evidence):
    def setUp(self):
        self.given((*HUB, *block("box", "c", h=of_hub("zone"))))

    def row(self, zone, hub=None):
        pairs = [(("net.z", "zone"), zone)]
        return tuple(sorted(pairs + ([(("hub.x[a]", "zone"), hub)] if hub is not None else [])))

    def test_found(self):
        self.check_word("box.c", "fields")

    def test_rows_that_agree(self):
        self.assertTrue(self.shows("box.c", "fields", self.row("eu", "p"), self.row("eu", "q")))
        self.assertTrue(self.shows("box.c", "fields", self.row("eu"), self.row("eu", "q")))

    def test_rows_that_do_not_agree(self):
        self.assertFalse(self.shows("box.c", "fields", self.row("eu", "p"), self.row("us", "q")))
        self.assertFalse(self.shows("box.c", "fields", (), self.row("eu", "q")))

    def test_like_fields(self):
        self.assertFalse(self.shows("box.c", "fields", self.row("us", "p"), self.row("us", "q")))
        self.assertFalse(self.shows("box.c", "fields", self.row("eu", "p"), self.row("eu", "p")))

    def test_answers_that_are_asked_for_by_nobody(self):
        # The boxes have a free answer, too, and a row that lists it does not agree with one that does not.
        self.given((*HUB, *block("box", "c", h=of_hub("zone")), *block("box", "d", u="7")))
        more = ((("box.d", "zone"), "x"),)
        one, other = more + self.row("eu", "p"), self.row("eu", "q")
        self.assertFalse(self.shows("box.c", "fields", one, other))
        self.assertTrue(self.shows("box.c", "fields", one, more + other))
        # What is no free answer does not matter.
        strange = ((("box.d", "id"), "x"),)
        self.assertTrue(self.shows("box.c", "fields", strange + self.row("eu", "p"), other))

    def test_without_fields(self):
        self.assertFalse(self.shows("hub.x[a]", "fields", (), EU))
        # One field cannot be evaluated under some rows.
        zone = 'hub.x["a"].zone'
        self.given((*HUB, *block("box", "c", h=f'if net.z.zone == "eu" and {zone} == "q" then 1 + true else 5')))
        one, other = self.row("eu", "q"), self.row("eu", "p")
        self.assertTrue(self.shows("box.c", "actions", one, other))
        self.assertFalse(self.shows("box.c", "fields", one, other))
        self.assertFalse(self.shows("box.c", "fields", other, one))


class ComingTest(Evidence):
    def setUp(self):
        self.given((*HUB, *block("box", "c", h=f"[{of_hub('id')}, net.z.id]")))

    def test_rows_and_addresses(self):
        self.assertTrue(self.shows("box.c", "coming", EU, "hub.x[a]"))
        self.assertFalse(self.shows("box.c", "coming", EU, "net.z"))
        self.assertFalse(self.shows("box.c", "coming", US, "hub.x[a]"))
        self.assertFalse(self.shows("box.c", "coming", EU, "hub.x[b]"))
        self.assertFalse(self.shows("hub.x[a]", "coming", EU, "hub.x[a]"))

    def test_found(self):
        self.given((*HUB, *block("box", "c", h='[if net.z.zone == "eu" then hub.x["a"].id else net.z.id]')))
        self.check_found("box.c", "coming", EU, "hub.x[a]")

    def test_any_values_as_address(self):
        for value in ANY_VALUES:
            self.assertIs(self.shows("box.c", "coming", EU, value), False, value)

    def test_a_made_address_with_a_fault(self):
        self.given((*block("box", "c", u='"x"', h="net.z.id"), *block("box", "d", u='"x"'), *block("net", "z")))
        self.assertFalse(self.shows("box.c", "coming", (), "net.z"))


class HeldTest(Evidence):
    def setUp(self):
        # The rock is guarded, so it stays, and what it holds stays as well.
        self.given(block("net", "z"), {
            "net.gone": thing(3), "rock.old": thing(4, h="#3.id"), "box.old": thing(5, h="#3.id"), "box.gone": thing(6)})

    def test_found(self):
        self.check_found("net.gone", "held", 4)

    def test_holders(self):
        for number, shown in ((4, True), (5, False), (3, False), (6, False), (9, False), (0, False)):
            self.assertIs(self.shows("net.gone", "held", number), shown, number)
        self.assertFalse(self.shows("rock.old", "held", 4))

    def test_any_values(self):
        for value in (*ANY_VALUES, True, "4", (4,), [4], {}):
            self.assertIs(self.shows("net.gone", "held", value), False, value)
        # True is not the number 1.
        self.given((), {"net.gone": thing(3), "rock.old": thing(1, h="#3.id")})
        self.assertIs(self.shows("net.gone", "held", 1), True)
        self.assertIs(self.shows("net.gone", "held", True), False)

    def test_a_left_thing(self):
        self.given((), {"rock.old": thing(4, h="#3.id")}, (("net.a", thing(3)), ("box.a", thing(8, h="#3.id"))))
        self.check_found("left 3", "held", 4)
        self.assertFalse(self.shows("left 3", "held", 8))
        self.assertFalse(self.shows("left 8", "held", 4))

    def test_held_by_a_left_thing(self):
        rows = (*HUB, *block("net", "b"))
        self.given(rows, {"rock.old": thing(9, h="#5.id")},
                   (("net.a", thing(4)), ("net.a", thing(5, h="#4.id"))))
        self.assertTrue(self.shows("left 4", "held", 5))
        self.assertTrue(self.shows("left 5", "held", 9))
        self.assertFalse(self.shows("left 4", "held", 9))

    def test_what_is_not_of_a_held_kind(self):
        self.given((*HUB, *block("box", "c", f="2", u="7", h=of_hub("id"))),
                   {"box.c": thing(3, u=7), "rock.old": thing(4, h="#3.id")})
        self.assertEqual(outcome(self.program, self.state)["box.c"], "behind")
        self.check_word("box.c", "coming")
        self.assertFalse(self.shows("box.c", "held", 4))

    def test_what_is_changed(self):
        self.given((*HUB, *block("net", "c", h=of_hub("id"))), {"net.c": thing(3, h=1), "rock.old": thing(4, h="#3.id")})
        self.check_word("net.c", "coming")
        self.assertFalse(self.shows("net.c", "held", 4))

    def test_behind(self):
        self.given((*block("pad", "p", f="2"), *block("net", "z")),
                   {"pad.p": thing(3), "rock.old": thing(4, h="#3.id")})
        self.check_found("pad.p", "held", 4)


class UniqueTest(Evidence):
    def setUp(self):
        waits = 'if net.z.zone == "eu" then hub.x["a"].zone == "q" else 7'
        self.given((*HUB, *block("box", "k", u=waits), *block("box", "a", u="5"), *block("box", "b", u="[6]")),
                   {"box.k": thing(4, u=5), "rock.r": thing(5, u=5), "box.gone": thing(6, u=(6,))})

    def test_found(self):
        self.check_found("box.a", "unique", (), 4)

    def test_numbers(self):
        for number in (4.0, "4", 5, 6, 9, True, None, [4], (4,)):
            self.assertIs(self.shows("box.a", "unique", (), number), False, number)
        self.assertTrue(self.shows("box.a", "unique", EU, 4))
        self.assertFalse(self.shows("box.k", "unique", (), 4))

    def test_a_value_under_some_rows_only(self):
        rows = (*HUB, *block("box", "k", u="true + 1"), *block("box", "a", u='if net.z.zone == "eu" then 5 else 6'))
        self.given(rows, {"box.k": thing(4, u=5)})
        self.check_found("box.a", "unique", EU, 4)
        self.assertFalse(self.shows("box.a", "unique", (), 4))

    def test_a_change_in_another_field(self):
        waits = 'if net.z.zone == "eu" then hub.x["a"].zone == "q" else 7'
        rows = (*HUB, *block("box", "k", u="true + 1"), *block("box", "a", u="5", h=waits))
        self.given(rows, {"box.k": thing(4, u=5), "box.a": thing(6, u=5)})
        # The value of box.a is no new one.
        self.assertTrue(self.shows("box.a", "fields", *self.two_rows()))
        self.assertFalse(self.shows("box.a", "unique", (), 4))

    def two_rows(self):
        return [((("hub.x[a]", "zone"), text), *EU) for text in ("q", "p")]


class RingTest(Evidence):
    def setUp(self):
        self.given((*block("box", "a", u="2"), *block("box", "b", u="1"), *block("net", "z")),
                   {"box.a": thing(1, u=1), "box.b": thing(2, u=2)})
        self.steps = (("change", "box.a"), ("change", "box.b"))

    def test_found(self):
        # Two nets that hold one another are to hold hubs that hold these; the hubs have faults.
        hubs = (*block("hub", "x", u='"q"'), *block("hub", "y", u='"q"'))
        self.given((*hubs, *block("net", "a", h="hub.y.id"), *block("net", "b", h="hub.x.id"), *block("net", "z")), {
            "net.a": thing(1, h="#2.id"), "net.b": thing(2, h="#1.id"), "hub.x": thing(3, h="#1.id"),
            "hub.y": thing(4, h="#2.id")})
        self.assertEqual(plan(self.program, self.state).steps, (("make", "net.z"),))
        for name in ("net.a", "net.b"):
            found = self.check_word(name, "ring")
            self.assertEqual(sorted(found[1]), [("change", "net.a"), ("change", "net.b")])

    def test_rings(self):
        self.assertTrue(self.shows("box.a", "ring", self.steps))
        self.assertTrue(self.shows("box.b", "ring", self.steps[::-1]))
        self.assertFalse(self.shows("net.z", "ring", self.steps))

    def test_what_is_no_ring(self):
        one, other = self.steps
        for wrong in ((), (one,), self.steps * 2, (one, other, ("make", "net.z")), (one, ("make", "box.b")), [one, other],
                      (one, list(other)), (one, ("change", ["box.b"])), (one, ("drop", 2)), (one, ("drop", "box.b")),
                      (one, ("change", 2)), (one, other, other), (one + ("x",), other), None, "ring", 1,
                      (one, ("change", "box.c")), (one, ("turn", "box.b")), (one, ("change",)), (one, ()),
                      (one, ([], "box.b")), (one, (("change", "box.b"), "box.b")), (one, "change")):
            self.assertIs(self.shows("box.a", "ring", wrong), False, wrong)

    def test_a_ring_of_another_thing(self):
        rows = (*block("box", "a", u="2"), *block("box", "b", u="1"), *block("box", "c", u='"x"'), *block("box", "d", u='"x"'))
        self.given(rows, {"box.a": thing(1, u=1), "box.b": thing(2, u=2)})
        self.assertTrue(self.shows("box.b", "ring", self.steps))
        self.assertFalse(self.shows("box.c", "ring", self.steps))

    def test_a_longer_ring_where_each_is_behind_the_one_before(self):
        rows = (*block("box", "a", u="2"), *block("box", "b", u="3"), *block("box", "c", u="1"))
        self.given(rows, {"box.a": thing(1, u=1), "box.b": thing(2, u=2), "box.c": thing(3, u=3)})
        # Box a takes the value of box b, so it comes behind it.
        ring = (("change", "box.c"), ("change", "box.b"), ("change", "box.a"))
        self.assertTrue(self.shows("box.a", "ring", ring))
        self.assertTrue(self.shows("box.a", "ring", ring[1:] + ring[:1]))
        self.assertFalse(self.shows("box.a", "ring", ring[::-1]))

    def test_a_step_that_is_on_no_ring(self):
        # Two pads hold one another, so neither can be deleted first; the new pad only comes behind.
        self.given(block("pad", "a", f="2"), {"pad.a": thing(1, h="#2.id"), "pad.b": thing(2, h="#1.id")})
        self.assertEqual(outcome(self.program, self.state)["pad.a"], "behind")
        self.assertEqual(outcome_of(plan, self.program, self.state)[0], "Ring")
        ring = (("delete", "pad.a"), ("delete", "pad.b"))
        for name, number in (("pad.a", 2), ("pad.b", 1)):
            # Now that both leave the stage, each is held by the other one.
            self.check_found(name, "held", number)
            self.assertTrue(self.shows(name, "ring", ring))
            self.assertTrue(self.shows(name, "ring", ring[::-1]))
        self.assertFalse(self.shows("pad.a", "ring", (("delete", "pad.a"), ("make", "pad.a"))))

    def test_a_left_thing_in_a_ring(self):
        # The new hub needs the value of the left one; what holds the left one lets it go behind the new one.
        rows = (*block("hub", "a", u="1"), *block("box", "b", u="9", h="hub.a.id"))
        self.given(rows, {"box.b": thing(2, u=9, h="#1.id")}, (("hub.a", thing(1, u=1)),))
        ring = (("make", "hub.a"), ("change", "box.b"), ("drop", 1))
        self.assertEqual(outcome_of(plan, self.program, self.state)[0], "Ring")
        for name in ("hub.a", "box.b", "left 1"):
            self.assertTrue(shows_why(self.program, self.state, name, why(self.program, self.state, name)))
            self.assertTrue(self.shows(name, "ring", ring), name)
        self.assertFalse(self.shows("left 1", "ring", (*ring[:2], ("drop", True))))


class ErrorsTest(Evidence):
    def test_any_values(self):
        self.given(HUB)
        for waiting in ANY_VALUES:
            with self.assertRaises(NotWaiting) as caught:
                why(self.program, self.state, waiting)
            self.assertEqual(caught.exception.value, waiting)
            for value in ANY_VALUES:
                self.assertIs(shows_why(self.program, self.state, waiting, value), False)
            for value in (("actions", (), EU), ("fault", ()), ("fields", (), EU), ("coming", (), "net.z"), ("held", 1),
                          ("unique", (), 1), ("ring", (("make", "net.z"),))):
                self.assertIs(shows_why(self.program, self.state, waiting, value), False)
        for value in ANY_VALUES:
            self.assertIs(shows_why(self.program, self.state, "hub.x[a]", value), False)
            for word in ("actions", "fault", "fields", "coming", "held", "unique", "ring"):
                self.assertIs(self.shows("hub.x[a]", word, value), False, (word, value))
                self.assertIs(self.shows("hub.x[a]", word, value, value), False, (word, value))

    def test_unsettled_is_first(self):
        self.given(HUB)
        row = Row(5, ("make", "net.z"), "make", thing(1)[1], 0, None)
        state = State().renewed({}, (), (row,))
        for value in ANY_VALUES:
            self.assertEqual(outcome_of(why, self.program, state, value), ("Unsettled", 5))
            with self.assertRaises(Unsettled):
                shows_why(self.program, state, value, value)

    def test_names_of_arguments(self):
        self.given(HUB)
        found = why(state=self.state, waiting="hub.x[a]", program=self.program)
        self.assertTrue(shows_why(value=found, waiting="hub.x[a]", state=self.state, program=self.program))


class RandomEvidenceTest(unittest.TestCase):
    """Evidence beside what is found slowly."""

    def values(self, chance, slow):
        rows = [tuple(sorted(view.row.items())) for view in slow.views]
        numbers = [*slow.things, 99]
        for _ in range(4):
            yield "actions", chance.choice(rows), chance.choice(rows)
            yield "fault", chance.choice(rows)
            yield "fields", chance.choice(rows), chance.choice(rows)
            yield "coming", chance.choice(rows), chance.choice(slow.addresses())
            yield "held", chance.choice(numbers)
            yield "unique", chance.choice(rows), chance.choice(numbers)
            for behind in slow.rings:
                yield "ring", tuple(chance.choice(list(behind)) for _ in range(chance.choice((1, 2, 3))))

    def check(self, seed, nets, boxes):
        _, program, state = random_case(seed, nets, boxes)
        slow = SlowWitness(program, state)
        chance = random.Random(seed)
        for name in slow.waiting():
            found = why(program, state, name)
            self.assertTrue(shows_why(program, state, name, found), (seed, name, found))
            self.assertTrue(slow.shows(name, found), (seed, name, found))
        if slow.addresses():
            for value in self.values(chance, slow):
                name = chance.choice((*slow.waiting(), *slow.addresses()))
                self.assertEqual(shows_why(program, state, name, value), slow.shows(name, value), (seed, name, value))

    def test_small_programs(self):
        for seed in range(40):
            self.check(seed, 1, 1 + seed % 4)

    def test_two_answers(self):
        for seed in range(1000, 1030):
            self.check(seed, 2, 1 + seed % 5)

    def test_where_plan_raises(self):
        raised = {}
        for seed in range(60):
            _, program, state = random_case(seed, 1, 3)
            try:
                plan(program, state)
            except (Faulty, Ring, Stuck) as error:
                raised[error.__class__] = True
                for name in SlowWitness(program, state).waiting():
                    self.assertTrue(shows_why(program, state, name, why(program, state, name)), (seed, name))
        self.assertIn(Faulty, raised)


if __name__ == "__main__":
    unittest.main()
