"""States and plans as texts (section 21)."""

import random
import unittest

from laterknown.errors import BadText
from laterknown.programs import read_program
from laterknown.stages import Plan, plan
from laterknown.states import Entry, Row, State, state_of
from laterknown.telling import OPEN, Later
from laterknown.texts import read_state, show_plan, show_state
from laterknown.values import Record
from housed import HOUSED, a_house, box, net, rock
from randomly import random_case
from samples import NO_STRINGS, lines

FULL = (
    'box.a 3 {label: "a-0", net: #1.id, size: -5} {id: #3.id}',
    'main/box.k[x] 7 {label: [], net: [[1, true], [], [#1.id, "", false]], size: 0} {id: #7.id}',
    'net 9 {range: 1000000, size: -1000000} {id: #9.id, zone: "eu"}',
    'net.z 1 {range: true, size: "abcdefghij0123456789"} {id: #1.id, zone: ""}',
    'left net.z 2 {range: 1, size: 1} {id: #2.id, zone: "us"}', 'left box.a 11 {label: 1, net: 1, size: 1} {id: #11.id}',
    "row 1 make net.y make {range: 1, size: 1} 0 -", "row 2 make net.z behind {range: 1, size: #1.id} 5 12",
    "row 5 make net.z ahead {range: 1, size: [1, 2]} 999999999999 0", "row 6 change box.a change {label: 1, net: 1, size: 2} 1 1",
    "row 7 delete box.a delete - 0 -", "row 9 delete box.a behind - 0 5", "row 10 drop 2 drop - 7 -", "row 999999999999 drop 1 drop - 1 2")


class ShowStateTest(unittest.TestCase):
    def test_empty(self):
        self.assertEqual(show_state(State()), "")
        self.assertEqual(read_state(HOUSED, ""), State())

    def test_lines(self):
        state = read_state(kinds=HOUSED, text=lines(*FULL))
        self.assertEqual(show_state(state=state), lines(*FULL))
        self.assertEqual(read_state(HOUSED, show_state(state)), state)

    def test_what_is_read(self):
        state = read_state(HOUSED, lines(*FULL))
        self.assertEqual(state.addresses, ("box.a", "main/box.k[x]", "net", "net.z"))
        self.assertEqual(state["box.a"], Entry("box", 3, Record(label="a-0", net="#1.id", size=-5), Record(id="#3.id")))
        self.assertEqual(state["main/box.k[x]"].fields,
                         Record(label=(), net=((1, True), (), ("#1.id", "", False)), size=0))
        self.assertEqual(state["net.z"].answers, Record(id="#1.id", zone=""))
        self.assertEqual(state.left, (
            ("net.z", Entry("net", 2, Record(range=1, size=1), Record(id="#2.id", zone="us"))),
            ("box.a", Entry("box", 11, Record(label=1, net=1, size=1), Record(id="#11.id")))))
        rows = state.under_way
        self.assertEqual(rows[0], Row(1, ("make", "net.y"), "make", Record(range=1, size=1), 0, None))
        self.assertEqual(rows[1], Row(2, ("make", "net.z"), "behind", Record(range=1, size="#1.id"), 5, 12))
        self.assertEqual(rows[4], Row(7, ("delete", "box.a"), "delete", None, 0, None))
        self.assertEqual(rows[6], Row(10, ("drop", 2), "drop", None, 7, None))

    def test_sequence(self):
        entries = tuple((f"net.b[{at}]", at + 1, Record(range=1, size=1), Record(id=f"#{at + 1}.id", zone="")) for at in range(11))
        shown = show_state(state_of(HOUSED, entries)).split("\n")
        self.assertEqual([line.split(" ")[0] for line in shown], sorted(entry[0] for entry in entries))
        left = [("net.z", Entry("net", number, *entries[0][2:])) for number in (10, 9, 2)]
        shown = show_state(State().renewed({}, left, ())).split("\n")
        self.assertEqual([line.split(" ")[2] for line in shown], ["2", "9", "10"])

    def test_kinds_without_fields_and_answers(self):
        house = a_house("resource pad p", "  range 1", "resource wall w", "  size 2")
        list(house.run(house.plan()))
        self.assertEqual(show_state(house.state), "pad.p 1 {range: 1} {id: #1.id}\nwall.w 2 {size: 2} {}")
        self.assertEqual(read_state(HOUSED, show_state(house.state)), house.state)

    def test_states_made_by_chance(self):
        for seed in range(60):
            kinds, _, state = random_case(seed, 2, 4)
            self.assertEqual(read_state(kinds, show_state(state)), state, seed)


class ShowPlanTest(unittest.TestCase):
    def shown(self, *rows):
        return show_plan(plan=plan(read_program(HOUSED, lines(*rows)), State()))

    def test_empty(self):
        self.assertEqual(self.shown(), "")

    def test_steps_and_what_waits(self):
        rows = (*net("z"), *box("c", "[net.z.id, 1, [net.z.zone, true]]", "net.z.zone", '["a"]'), *rock("r", "true", "-5"),
                *rock('k each if net.z.zone == "eu" then ["a"] else []'), *rock("s", 'net.z.zone == "eu"'),
                *rock("t", "[net.z.zone, 2] == [1, 2]"))
        self.assertEqual(self.shown(*rows), lines(
            "make net.z {range: 1, size: 1}",
            'make box.c {label: ["a"], net: later net.z.zone, size: [later net.z.id, 1, [later net.z.zone, true]]}',
            "make rock.r {net: -5, size: true}", "make rock.s {net: 2, size: open}", "make rock.t {net: 2, size: false}",
            "waits rock.k[a]"))

    def test_all_steps(self):
        told = {"net.z": Record(range=1, size=Later("net.y", "id")), "net.y": Record(range="", size=(OPEN, ()))}
        made = Plan((("make", "net.z"), ("delete", "net.x"), ("change", "net.y"), ("drop", 7)), told, ("box.k", "left 12"))
        self.assertEqual(show_plan(made), lines(
            "make net.z {range: 1, size: later net.y.id}", "delete net.x", 'change net.y {range: "", size: [open, []]}',
            "drop 7", "waits box.k", "waits left 12"))


class BadTextTest(unittest.TestCase):
    def bad(self, text, line):
        with self.assertRaises(BadText) as caught:
            read_state(HOUSED, text)
        self.assertEqual(caught.exception.value, line, text)

    def check_line(self, at, *wrong):
        """Lines that cannot stand in the place of one of the full state."""
        for row in wrong:
            self.bad(lines(*FULL[:at], row, *FULL[at + 1:]), at)

    def test_what_is_no_string(self):
        for value in NO_STRINGS:
            self.bad(value, 0)

    def test_empty_lines(self):
        self.bad("\n", 0)
        self.bad(" ", 0)
        self.bad(FULL[0] + "\n", 1)
        self.bad("\n" + FULL[0], 0)
        self.bad(lines(FULL[0], "", FULL[1]), 1)

    def test_one_sign_otherwise(self):
        """Each sign left out, twice, or in place of another one; the text is bad or is another state."""
        for at, row in enumerate(FULL):
            for place in range(len(row)):
                for other in (row[:place] + row[place + 1:], row[:place] + row[place] + row[place:],
                              row[:place] + " " + row[place:], row[:place] + "0" + row[place:],
                              row[:place] + "%" + row[place + 1:]):
                    text = lines(*FULL[:at], other, *FULL[at + 1:])
                    try:
                        state = read_state(HOUSED, text)
                    except BadText as error:
                        # A number or an address that is otherwise may make a later line bad.
                        self.assertGreaterEqual(error.value, at, (other, error.value))
                        continue
                    self.assertEqual(show_state(state), text, other)

    def test_words_that_are_left_out_or_twice(self):
        for at, row in enumerate(FULL):
            words = row.split(" ")
            for place in range(len(words)):
                for other in (words[:place] + words[place + 1:], words[:place + 1] + words[place:]):
                    text = lines(*FULL[:at], " ".join(other), *FULL[at + 1:])
                    if at == 1 and words[place] in ("[],", '"",') and words[place - 1] != "{label:":
                        # A part of a list; without it, it is another list.
                        self.assertEqual(show_state(read_state(HOUSED, text)), text)
                    else:
                        self.bad(text, at)

    def test_lines_that_are_exchanged(self):
        for one in range(len(FULL)):
            for other in range(one):
                rows = list(FULL)
                rows[one], rows[other] = rows[other], rows[one]
                # The first line that cannot stand there is one behind a line that came too early.
                self.bad(lines(*rows), other + 1)
            rows = [*FULL[:one + 1], *FULL[one:]]
            self.bad(lines(*rows), one + 1)

    def test_addresses(self):
        for word in ("disk.a", "", "a", "net/", "net/x", "Net.z", ".net", "nets.z", "row", "left", "2"):
            self.bad(f'{word} 1 {{range: 1, size: 1}} {{id: #1.id, zone: ""}}', 0)
        for word in ("net", "net.", "net.z.q", "a/b/net.z", "disk/net.z[", "net.#", "net.\u00e9", "/net.z", "net.{}", "net.\t"):
            text = f'{word} 1 {{range: 1, size: 1}} {{id: #1.id, zone: ""}}'
            self.assertEqual(show_state(read_state(HOUSED, text)), text)

    def test_numbers(self):
        for word in ("0", "01", "1234567890123", "-1", "+1", "1.0", "one", "", "1_0", "#1", "\u0661", "\u00b2"):
            self.check_line(2, f'net {word} {{range: 1, size: 1}} {{id: #{word}.id, zone: ""}}')
            self.check_line(5, f"left box.a {word} {{label: 1, net: 1, size: 1}} {{id: #{word}.id}}")
            self.check_line(6, f"row {word} make net.y make {{range: 1, size: 1}} 0 -")
            self.check_line(12, f"row 10 drop {word} drop - 0 -")
            if word != "0":
                self.check_line(12, f"row 10 drop 2 drop - {word} -", f"row 10 drop 2 drop - 0 {word}")
        text = 'net 999999999999 {range: 1, size: #999999999999.abcdefghijkl} {id: #999999999999.id, zone: ""}'
        self.assertEqual(show_state(read_state(HOUSED, text)), text)

    def test_numbers_twice(self):
        one = 'net.{} {} {{range: 1, size: 1}} {{id: #{}.id, zone: ""}}'
        self.bad(lines(one.format("a", 1, 1), one.format("b", 1, 1)), 1)
        self.bad(lines(one.format("a", 1, 1), "left " + one.format("a", 1, 1)), 1)
        self.bad(lines("left " + one.format("a", 1, 1), "left " + one.format("b", 1, 1)), 1)
        self.bad(lines("row 1 drop 5 drop - 0 -", "row 1 drop 6 drop - 0 -"), 1)
        # A thing and a row may have the same number.
        read_state(HOUSED, lines(one.format("a", 1, 1), "row 1 drop 1 drop - 0 -"))

    def test_values(self):
        for word in ("1000001", "-1000001", "01", "-0", "+1", "- 1", "1.0", '"A"', '"abcdefghij01234567890"', "a", '"a', 'a"',
                     "'a'", "True", "None", "#1", "#0.id", "#01.id", "#1234567890123.id", "#1.", "#1.iD", "#1.abcdefghijklm",
                     "#net.z.id", "#.id", "#1.a.b", "#1.id]", "?net.z.zone", "?1.id", "a1.id", "11.id", '"#1.id"', "[", "]", "[1,2]", "[1, ]", "[, 1]",
                     "[1 , 2]", "[ 1]", "[1 ]", "[1, 2", "[[[[]]]]", "[" + ", ".join(["1"] * 17) + "]", "{}", "open",
                     "later net.z.id", "(1)", "1 + 1", "-", "--1", '""""', "", "[" * 5000, "[" * 5000 + "]" * 5000):
            self.check_line(2, f'net 9 {{range: {word}, size: 1}} {{id: #9.id, zone: "eu"}}',
                            f'net 9 {{range: 1, size: {word}}} {{id: #9.id, zone: "eu"}}')
            self.check_line(6, f"row 1 make net.y make {{range: 1, size: {word}}} 0 -")
        for word in ("1000000", "-1000000", "0", "-1", "true", "false", '""', '"-"', "[]", "[[[]]]", "[[[1], #5.a], 2]",
                     "[" + ", ".join(["1"] * 16) + "]", "#9.id", "#999999999999.z"):
            text = f'net 9 {{range: {word}, size: 1}} {{id: #9.id, zone: "eu"}}'
            self.assertEqual(show_state(read_state(HOUSED, text)), text)

    def test_fields_and_answers(self):
        self.check_line(
            2, 'net 9 {range: 1} {id: #9.id, zone: "eu"}', 'net 9 {size: 1, range: 1} {id: #9.id, zone: "eu"}',
            'net 9 {range: 1, size: 1, zone: 1} {id: #9.id, zone: "eu"}', 'net 9 {} {id: #9.id, zone: "eu"}',
            'net 9 {range: 1, size: 1} {}', 'net 9 {range: 1, size: 1} {id: #9.id}', "net 9 {range: 1, size: 1}",
            'net 9 {range: 1, range: 1, size: 1} {id: #9.id, zone: "eu"}', 'net 9 {range:1, size: 1} {id: #9.id, zone: "eu"}',
            'net 9 {range: 1,size: 1} {id: #9.id, zone: "eu"}', 'net 9 { range: 1, size: 1} {id: #9.id, zone: "eu"}',
            'net 9 {range: 1, size: 1} {id: #8.id, zone: "eu"}', 'net 9 {range: 1, size: 1} {id: #9.zone, zone: "eu"}',
            'net 9 {range: 1, size: 1} {id: 9, zone: "eu"}', 'net 9 {range: 1, size: 1} {id: #9.id, zone: 1}',
            'net 9 {range: 1, size: 1} {id: #9.id, zone: #9.id}', 'net 9 {range: 1, size: 1} {id: #9.id, zone: ["eu"]}',
            'net 9 {range: 1, size: 1} {id: #9.id, zone: "eu"} ', 'net 9 {range: 1, size: 1} {id: #9.id, zone: "eu"}}',
            'net 9  {range: 1, size: 1} {id: #9.id, zone: "eu"}', 'net 9 {range: 1, size: 1}  {id: #9.id, zone: "eu"}',
            'net 9 {range: 1, size: 1}{id: #9.id, zone: "eu"}', 'net 9 - {id: #9.id, zone: "eu"}')

    def test_rows(self):
        self.check_line(
            6, "row 1 make net.y change {range: 1, size: 1} 0 -", "row 1 make net.y delete {range: 1, size: 1} 0 -",
            "row 1 make net.y drop {range: 1, size: 1} 0 -", "row 1 make net.y none {range: 1, size: 1} 0 -",
            "row 1 make net.y fault {range: 1, size: 1} 0 -", "row 1 make net.y make - 0 -", "row 1 make 5 make {range: 1, size: 1} 0 -",
            "row 1 make disk.y make {range: 1, size: 1} 0 -", "row 1 make net.y make {range: 1} 0 -",
            "row 1 make net.y make {range: 1, size: 1} - -", "row 1 make net.y make {range: 1, size: 1} 0", "row 1",
            "row 1 make net.y make {range: 1, size: 1} 0 - ", "row 1 make net.y make {range: 1, size: 1} -1 -", "row",
            "row 1 take net.y make {range: 1, size: 1} 0 -", "row 1 make net.y make {range: 1, size: 1}  0 -",
            "row 1 change net.y make {range: 1, size: 1} 0 -", "row 1 change net.y change - 0 -", "row 1 delete net.y change - 0 -",
            "row 1 delete net.y make - 0 -", "row 1 delete net.y delete {range: 1, size: 1} 0 -", "row 1 delete 7 delete - 0 -",
            "row 1 drop net.y drop - 0 -", "row 1 drop 7 delete - 0 -", "row 1 drop 7 drop {} 0 -", "row 1 drop 7 drop -", "row 1 drop 7 drop - 0",
            "row 1 make net.y make None 0 -")


if __name__ == "__main__":
    unittest.main()
