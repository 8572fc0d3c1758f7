"""What a plan tells of fields, and what rules say of them (point 13)."""

import unittest

from laterknown.errors import Faulty, Ring, Stuck
from laterknown.kinds import read_kinds
from laterknown.programs import read_program
from laterknown.stages import plan
from laterknown.states import State, state_of
from laterknown.telling import OPEN, Later, judged
from laterknown.values import Record, alike, is_value
from samples import ANY_VALUES, KINDS, ZONED, lines, same
from staged import block, staged_program, staged_state, thing

NETS = (*block("net", "z"), *block("net", "y"))
ID, ZONE, OTHER = Later("net.z", "id"), Later("net.z", "zone"), Later("net.y", "zone")


class LaterTest(unittest.TestCase):
    def test_properties_and_equality(self):
        one = Later("net.z", "id")
        self.assertEqual((one.address, one.answer), ("net.z", "id"))
        self.assertTrue(one == Later(address="net.z", answer="id"))
        for other in (Later("net.y", "id"), Later("net.z", "zone"), Later("id", "net.z"), OPEN, ("net.z", "id"),
                      "#net.z.id", *ANY_VALUES):
            self.assertFalse(one == other)
            self.assertTrue(one != other)

    def test_in_records(self):
        self.assertTrue(Record(a=Later("net.z", "id")) == Record(a=Later("net.z", "id")))
        self.assertTrue(Record(a=(1, OPEN, Later("net.z", "id"))) == Record(a=(1, OPEN, Later("net.z", "id"))))
        self.assertFalse(Record(a=Later("net.z", "id")) == Record(a=Later("net.z", "zone")))
        self.assertFalse(Record(a=Later("net.z", "id")) == Record(a=OPEN))
        self.assertFalse(Record(a=(True, OPEN)) == Record(a=(1, OPEN)))

    def test_open(self):
        self.assertFalse(is_value(OPEN))
        self.assertFalse(is_value((OPEN,)))
        self.assertTrue(OPEN == OPEN)
        self.assertTrue(alike(OPEN, OPEN))
        for other in (*ANY_VALUES, "open", ID, (OPEN,)):
            self.assertFalse(OPEN == other)


class ToldTest(unittest.TestCase):
    def assert_told(self, text, told, *rows, entries=None):
        program = staged_program(*NETS, *rows, *block("box", "b", h=text))
        found = plan(program, staged_state(entries or {}))["box.b"]["h"]
        self.assertTrue(same(found, told), (text, found))

    def test_the_program_of_the_document(self):
        found = plan(read_program(KINDS, ZONED), State())
        self.assertEqual(found["box.c"], Record(size=1, net=Later("net.z", "id"), label=("c",)))
        self.assertEqual(found["main/box.b[1]"], Record(size=3, net="none", label=("b", 1)))
        self.assertEqual(found["net.z"], Record(range=9))

    def test_answers_to_come(self):
        self.assert_told("net.z.id", ID)
        self.assert_told("net.z.zone", ZONE)
        self.assert_told("[net.z.zone][0]", ZONE)

    def test_the_same_answer_under_all_rows(self):
        self.assert_told('if net.z.zone == "eu" then "eu" else net.z.zone', ZONE)
        self.assert_told('if net.z.zone == "eu" then "us" else net.z.zone', OPEN)
        self.assert_told('if net.z.zone == net.y.zone then net.y.zone else net.z.zone', ZONE)
        self.assert_told('if net.z.zone == net.y.zone then net.z.zone else net.y.zone', OTHER)
        self.assert_told('if net.z.zone == "eu" then net.y.zone else net.z.zone', OPEN)
        self.assert_told('if net.z.zone == "eu" then net.z.id else net.z.id', ID)
        self.assert_told('if net.z.zone == "eu" then net.z.id else net.y.id', OPEN)

    def test_values(self):
        for text, value in (("1", 1), ("true", True), ('"eu"', "eu"), ("[]", ()),
            ('[1, [true, "a"]]', (1, (True, "a")))):
            self.assert_told(text, value)
        self.assert_told("net.z.f", 1)
        self.assert_told('if net.z.zone == "eu" then 1 else 1', 1)
        self.assert_told('if net.z.zone == "eu" then [1] else [1]', (1,))
        self.assert_told('net.z.zone == net.z.zone', True)
        self.assert_told('if net.z.zone == "eu" then 1 else true', OPEN)
        self.assert_told('[net.z.zone == net.y.zone] == [1]', False)

    def test_recorded_answers(self):
        entries = {"net.z": thing(7, zone="eu")}
        self.assert_told("[net.z.id, net.z.zone]", ("#7.id", "eu"), entries=entries)
        self.assert_told("[net.z.id, net.y.id]", ("#7.id", Later("net.y", "id")), entries=entries)
        self.assert_told("net.z.id", ID, entries={"net.z": thing(7, f=0)})
        self.assert_told("net.z.zone", ZONE, entries={"net.z": thing(7, f=0)})
        self.assert_told('if net.z.zone == "old" then net.y.zone else "old"', OTHER, entries={"net.z": thing(7)})

    def test_lists_of_told_parts(self):
        self.assert_told("[1, net.z.id]", (1, ID))
        self.assert_told("[net.z.zone, [net.z.id, [net.y.zone]]]", (ZONE, (ID, (OTHER,))))
        self.assert_told('[1, net.z.zone == "eu"]', (1, OPEN))
        self.assert_told('if net.z.zone == "eu" then [1, 2] else [1, true]', (1, OPEN))
        self.assert_told('if net.z.zone == "eu" then [1, []] else [1, [2]]', (1, OPEN))
        self.assert_told('if net.z.zone == "eu" then [1, [3]] else [1, [2]]', (1, (OPEN,)))
        self.assert_told('if net.z.zone == "eu" then [1] else [1, 2]', OPEN)
        self.assert_told('if net.z.zone == "eu" then [1] else 1', OPEN)
        self.assert_told('if net.z.zone == "eu" then 1 else [1]', OPEN)
        self.assert_told('if net.z.zone == "eu" then [] else ""', OPEN)
        self.assert_told('if net.z.zone == "eu" then [net.z.id] else [net.z.zone]', (OPEN,))

    def test_open_fields(self):
        self.assert_told('net.z.zone == "eu"', OPEN)
        self.assert_told('net.z.zone == net.y.zone', OPEN)
        self.assert_told('net.z.zone in ["eu", "us"]', OPEN)
        self.assert_told('if net.z.zone == "eu" then "eu" else "us"', OPEN)

    def test_texts_like_those_that_stand_for_others(self):
        # Two answers may be equal to one another, and to no text that is written or recorded.
        texts = '"new-0", "new-1", "new-2"'
        self.assert_told(f"if net.z.zone == net.y.zone then net.z.zone in [{texts}] else true", OPEN)
        rows, entries = [], {}
        for at in range(3):
            rows += block("pad", f"{'abc'[at]}")
            entries[f"pad.{'abc'[at]}"] = thing(at + 1, zone=f"new-{at}")
        zones = "[pad.a.zone, pad.b.zone, pad.c.zone]"
        self.assert_told(f"if net.z.zone == net.y.zone then net.z.zone in {zones} else true", OPEN, *rows,
            entries=entries)

    def test_changed_and_replaced_things(self):
        rows = (*block("net", "z"), *block("net", "y", f="2", h="net.z.id"), *block("box", "b", h="net.z.zone", u="4"),
                *block("pad", "p", f="3", h="net.y.id"))
        entries = {"net.y": thing(1), "box.b": thing(2), "pad.p": thing(3)}
        found = plan(staged_program(*rows), staged_state(entries))
        self.assertEqual(found["net.y"], Record(f=2, u=0, h=ID))
        self.assertEqual(found["box.b"], Record(f=1, u=4, h=ZONE))
        self.assertEqual(found["pad.p"], Record(f=3, u=0, h=Later("net.y", "id")))

    def test_answers_of_instances_and_modules(self):
        rows = ("module m", "  resource net n", "    f 1", "    u 2", "    h 3", "  output id net.n.id",
                "  output zone net.n.zone", "use m w", *block("net", "k count 2"),
                *block("box", "b", h="[w.id, w.zone, net.k[*].id]"))
        found = plan(staged_program(*rows), State())["box.b"]["h"]
        self.assertTrue(same(found, (
            Later("w/net.n", "id"), Later("w/net.n", "zone"), (Later("net.k[0]", "id"), Later("net.k[1]", "id")))))


class JudgedTest(unittest.TestCase):
    def assert_judged(self, words, *rules, rows=(), entries=None):
        """The words of the rules for the box b, whose field h is the zone of net z."""
        program = staged_program(*NETS, *block("box", "b", h="net.z.zone", u="5"), *rows, *rules)
        found = judged(program, staged_state(entries or {}))
        self.assertEqual(found, tuple([("box.b", at, word) for at, word in enumerate(words)]))

    def test_the_program_of_the_document(self):
        self.assertEqual(judged(read_program(KINDS, ZONED), State()), (
            ("box.c", 0, "allowed"), ("main/box.b[0]", 0, "allowed"), ("main/box.b[1]", 0, "allowed")))
        self.assertEqual(judged(program=read_program(KINDS, ZONED.replace("own.size > 5", "own.size == 3")),
            state=State()), (
            ("box.c", 0, "allowed"), ("main/box.b[0]", 0, "denied"), ("main/box.b[1]", 0, "denied")))

    def test_words(self):
        for rule, word in (
                ("true", "denied"), ("false", "allowed"), ("own.f == 1", "denied"), ("own.u > 5", "allowed"),
                ('own.h == "eu"', "open"), ('net.z.zone == "eu"', "open"), ("own.h == net.z.zone", "denied"),
                ("own.h == net.y.zone", "open"), ("own.h != net.z.zone", "allowed"),
                ("net.y.zone == net.z.zone", "open"),
                ('if own.h == "eu" then true else own.u == 5', "denied"), ("own.h == net.z.id", "allowed")):
            self.assert_judged([word], f"deny box {rule}")

    def test_rules_that_cannot_be_evaluated_or_give_no_bool(self):
        for rule, word in (
                ('1 + "a"', "denied"), ("1", "denied"), ('""', "denied"), ("[]", "denied"), ("0", "denied"),
                ('not own.u', "denied"), ('if own.h == "eu" then 1 else true', "denied"),
                ('if own.h == "eu" then [1][1] else false', "open"), ('if own.h == "eu" then 0 else false', "open"),
                ("net.z.zone", "denied"), ("own.h", "denied")):
            self.assert_judged([word], f"deny box {rule}")

    def test_several_rules(self):
        self.assert_judged(["denied", "allowed", "open"], "deny box true", "deny box false", 'deny box own.h == "eu"')
        program = staged_program(*NETS, "deny pad true", *block("box", "b"), "deny box false", "deny net own.h == 1",
                                 *block("box", "a", u="1"), "deny box own.u == 1")
        self.assertEqual(judged(program, State()), (
            ("box.a", 1, "allowed"), ("box.a", 3, "denied"), ("box.b", 1, "allowed"), ("box.b", 3, "allowed"),
            ("net.y", 2, "allowed"), ("net.z", 2, "allowed")))

    def test_what_a_rule_sees(self):
        rows = ("let limit 4", "module m", "  input x", "  output twice x + x", "use m w", "  x limit",
                "resource net k count 2", "  f 1", "  u 8", "  h index")
        for rule, word in (("own.u > limit", "denied"), ("own.u > w.twice", "allowed"),
            ("own.u + 3 in net.k[*].u", "denied"),
                           ("own.u == net.k[1].h", "allowed"), ("net.k[2].h == 1", "denied"),
                           ("box.b.u == own.u", "denied")):
            self.assert_judged([word], f"deny box {rule}", rows=rows)

    def test_things_in_uses(self):
        rows = ("module m", "  resource box n", "    f 1", "    u 2", "    h 3", "use m w", "deny box own.u == 2")
        self.assertEqual(judged(staged_program(*rows), State()), (("w/box.n", 0, "denied"),))

    def test_only_what_the_stage_gives_fields(self):
        rows = (*block("net", "z"), *block("box", "same", u="1"), *block("box", "changed", u="2"),
            *block("box", "made", u="3"),
                *block("box", "ahead", u="4"), *block("box", "behind", u="5"),
                *block("box", 'waits each if net.z.zone == "eu" then ["x"] else []', u="6"), "deny box true")
        entries = {"box.same": thing(1, u=1), "box.changed": thing(2, u=22), "box.ahead": thing(3, f=0, u=33),
                   "box.behind": thing(4, f=0, u=5), "box.old": thing(5, u=55)}
        self.assertEqual(judged(staged_program(*rows), staged_state(entries)), tuple([
            (f"box.{name}", 0, "denied") for name in ("ahead", "behind", "changed", "made")]))

    def test_rules_that_ask_for_more_answers(self):
        # The fields ask for no answers, and the rules compare them with one another and with texts.
        program = staged_program(*NETS, *block("box", "b"), 'deny box net.z.zone == "eu" and net.y.zone == "us"',
                                 "deny box net.z.zone == net.y.zone",
                                 'deny box net.z.zone == "eu" and net.z.zone == "us"')
        self.assertEqual([found[2] for found in judged(program, State())], ["open", "open", "allowed"])

    def test_it_raises_as_plan_does(self):
        with self.assertRaises(Faulty) as caught:
            judged(staged_program(*block("net", "z", h='1 + "a"')), State())
        self.assertEqual((caught.exception.value, caught.exception.word), ("net.z", "evaluate"))
        swap = staged_program(*block("box", "a", u="2"), *block("box", "b", u="1"))
        with self.assertRaises(Ring):
            judged(swap, staged_state({"box.a": thing(1, u=1), "box.b": thing(2, u=2)}))
        rows = (*block("pad", "p"), *block("box", "b", h='if pad.p.zone == "eu" then 1 + "a" else pad.p.id'))
        with self.assertRaises(Stuck) as caught:
            judged(staged_program(*rows), staged_state({"pad.p": thing(1, f=0), "box.b": thing(2, h="#1.id")}))
        self.assertEqual(caught.exception.value, ("box.b", "pad.p"))
        self.assertEqual(judged(staged_program("deny box true"), State()), ())

    def test_the_example_of_the_document(self):
        nets = "kind net\n  fixed range\n  fresh id\n  free zone\n  held\nkind box\n  set net"
        kinds = read_kinds(nets)
        entries = (("net.z", 1, Record(range=7), Record(id="#1.id", zone="eu")),
                   ("box.c", 2, Record(net="#1.id"), Record()))
        text = lines("resource net z", "  range 9", "resource box c", "  net net.z.id", "deny net own.range > 8")
        program, state = read_program(kinds, text), state_of(kinds, entries)
        found = plan(program, state)
        self.assertEqual(found.steps, (("make", "net.z"), ("change", "box.c"), ("drop", 1)))
        self.assertEqual(found["box.c"]["net"].address, "net.z")
        self.assertEqual(judged(program, state), (("net.z", 0, "denied"),))
        program = read_program(read_kinds(nets.replace("held", "held\n  single")), text)
        self.assertEqual(plan(program, state).steps, (
            ("delete", "box.c"), ("delete", "net.z"), ("make", "net.z"), ("make", "box.c")))


if __name__ == "__main__":
    unittest.main()
