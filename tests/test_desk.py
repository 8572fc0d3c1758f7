"""A desk (section 22)."""

import random
import unittest

from laterknown.desk import Desk
from laterknown.drift import drift
from laterknown.errors import (
    BadKinds, BadLine, BadProgram, Denied, Faulty, LaterError, NoAddress, NoCandidate, NoLeft, NoProgram, NoRow, NoThing,
    NothingToUndo, Recorded, Refused, Taken, Unnamed, Unsettled, Unsure,
)
from laterknown.house import House
from laterknown.kinds import read_kinds, show_kinds
from laterknown.texts import read_state, show_plan, show_state
from laterknown.worlds import World
from housed import HOUSED, box, net, rock
from samples import ANY_VALUES, NO_STRINGS, lines, outcome_of

KINDS = show_kinds(HOUSED)
TWO_NETS = "wish " + " / ".join((*net("z"), *net("y", "2")))


def wished(*rows):
    return "wish " + " / ".join(rows)


class DeskCase(unittest.TestCase):
    def setUp(self):
        self.desk = Desk(KINDS, ("eu", "us"))

    def say(self, *told):
        """Says lines, and checks the answers: pairs (line, answer)."""
        for line, answer in told:
            self.assertEqual(self.desk.say(line), answer, line)

    def shown(self):
        return [self.desk.say("state"), self.desk.say("drift"), outcome_of(self.desk.say, "plan")]

    def refused(self, line, error, value=None):
        """The line raises an error with this value, and changes nothing."""
        before = self.shown()
        with self.assertRaises(error) as caught:
            self.desk.say(line)
        self.assertIs(caught.exception.__class__, error, line)
        if value is not None:
            self.assertEqual(caught.exception.value, value)
        self.assertEqual(self.shown(), before)

    def bad(self, *wrong):
        for line in wrong:
            with self.assertRaises(BadLine) as caught:
                self.desk.say(line)
            self.assertIs(caught.exception.value, line)


class DocumentTest(unittest.TestCase):
    def test_example(self):
        desk = Desk("kind net\n  fixed range\n  fresh id\n  free zone")
        self.assertEqual(
            [desk.say("wish resource net z /   range 9"), desk.say("plan"), desk.say("run"), desk.say("state"), desk.say("plan")],
            ["done", "make net.z {range: 9}", "done", 'net.z 1 {range: 9} {id: #1.id, zone: ""}', "-"])


class KindsTest(unittest.TestCase):
    def test_bad_kinds(self):
        for value in NO_STRINGS:
            self.assertEqual(outcome_of(Desk, value), ("BadKinds", 0))
            self.assertEqual(outcome_of(Desk, value, ("eu",)), ("BadKinds", 0))
        with self.assertRaises(BadKinds) as caught:
            Desk("kind net\nkind net")
        self.assertEqual(caught.exception.value, 1)

    def test_free_answers(self):
        for desk, zone in ((Desk(KINDS), ""), (Desk(kinds_text=KINDS, free=("us",)), "us")):
            self.assertEqual(desk.say(line="put net {range: 1, size: 1}"), "1")
            desk.say("take net.z 1")
            self.assertEqual(desk.say("state"), f'net.z 1 {{range: 1, size: 1}} {{id: #1.id, zone: "{zone}"}}')


class LinesTest(DeskCase):
    def test_wish_and_undo(self):
        self.say(("wish ", "done"), ("plan", "-"), (wished(*net("z")), "done"), ("plan", "make net.z {range: 1, size: 1}"),
                 ("undo", "done"), ("plan", "-"), ("undo", "done"))
        self.refused("plan", NoProgram)
        self.refused("undo", NothingToUndo)

    def test_programs(self):
        self.refused("wish  let a 1", BadProgram, 0)
        self.refused("wish let a 1 ", BadProgram, 0)
        self.refused("wish let a 1 / ", BadProgram, 1)
        self.refused("wish  / let a 1", BadProgram, 0)
        self.refused("wish let a 1 /let b 1", BadProgram, 0)
        self.refused("wish let a 1 / let b c", Unnamed, 1)
        self.refused("wish let a 1/ let b 1", BadProgram, 0)
        self.refused("wish -", BadProgram, 0)
        self.say(("wish let a 1 / let b a", "done"), ("wish let a 1\nlet b a", "done"))
        self.refused("wish let a 1\nlet b c", Unnamed, 1)

    def test_plan(self):
        self.say((wished(*net("z"), *box("c", "net.z.id", "net.z.zone"), *rock('k each if net.z.zone == "eu" then ["a"] else []')),
                  "done"),
                 ("plan", 'make net.z {range: 1, size: 1} / make box.c {label: "a", net: later net.z.zone, size: later net.z.id} / '
                          "waits rock.k[a]"))

    def test_run(self):
        self.say((TWO_NETS, "done"), ("run ok fail", "done failed"), ("run", "done"), ("run", "-"), ("run ok halt", "-"),
                 ("wish ", "done"), ("run crash ok", "open"))
        self.assertEqual(self.desk.say("state").split(" / ")[-1], "row 4 delete net.y delete - 2 -")
        self.refused("run", Unsettled, 4)

    def test_states(self):
        self.say(("state", "-"), (TWO_NETS, "done"), ("run ok lost", "done open"),
                 ("state", 'net.y 1 {range: 2, size: 1} {id: #1.id, zone: "eu"} / row 2 make net.z make {range: 1, size: 1} 1 2'))

    def test_moves(self):
        self.say((TWO_NETS, "done"), ("run", "done done"), ("move net.z net.q[{]", "done"))
        self.assertEqual([row.split(" ")[0] for row in self.desk.say("state").split(" / ")], ["net.q[{]", "net.y"])
        self.refused("move net.z net.x", NoAddress, "net.z")
        self.refused("move net.y net.q[{]", Taken, "net.q[{]")
        self.refused("move net.y rock.y", Taken, "rock.y")
        self.say(("undo", "done"), ("plan", "-"))

    def test_settle_and_read(self):
        self.say((TWO_NETS, "done"), ("run lost void", "open open"), ("settle", "done"),
                 ("state", "row 1 make net.y make {range: 2, size: 1} 0 1"), ("claim net.y 1", "done"), ("alter 1 size 5", "done"),
                 ("drift", "net.y"), ("read", "done"), ("drift", "-"),
                 ("state", 'net.y 1 {range: 2, size: 5} {id: #1.id, zone: "eu"}'), ("remove 1", "done"), ("drift", "net.y"),
                 ("read", "done"), ("state", "-"))

    def test_claims(self):
        self.say((TWO_NETS, "done"), ("run lost lost", "open open"))
        with self.assertRaises(Unsure) as caught:
            self.desk.say("plan")
        self.assertEqual((caught.exception.value, caught.exception.found), ("net.y", (1,)))
        self.refused("claim net.y 2", NoCandidate, 2)
        self.refused("claim net.y 0", NoCandidate, 0)
        self.refused("claim net.x 1", NoRow, "net.x")
        self.refused("disown net.x", NoRow, "net.x")
        self.say(("claim net.y 1", "done"), ("disown net.z", "done"), ("plan", "make net.z {range: 1, size: 1}"))

    def test_left_things(self):
        self.say((wished(*net("z")), "done"), ("run", "done"), (wished(*net("z", "2")), "done"), ("run ok fail", "done failed"))
        self.refused("takeback net.z 2", NoLeft, 2)
        self.refused("takeback net.y 1", NoLeft, 1)
        self.say(("takeback net.z 1", "done"))
        self.assertEqual([row.split(" ")[:3] for row in self.desk.say("state").split(" / ")],
                         [["net.z", "1", "{range:"], ["left", "net.z", "2"]])
        self.say(("undo", "done"), ("run halt", "open"))
        self.say(("settle", "done"), ("run", "done"))

    def test_other_hands(self):
        self.say(('put net {range: [1, "a-b"], size: true}', "1"), ("put wall {size: #1.id}", "2"),
                 ('put box {label: "a", net: 1, size: -5}', "3"), ("alter 3 label [1, [2, #999.abc]]", "done"),
                 ("alter 1 range 7", "done"), ("take net.z 1", "done"), ("take box.z 3", "done"),
                 ("state", 'box.z 3 {label: [1, [2, #999.abc]], net: 1, size: -5} {id: #3.id} / '
                           'net.z 1 {range: 7, size: true} {id: #1.id, zone: "eu"}'))
        self.refused("remove 1", Refused, "held")
        self.say(("put box {label: 5, net: 1, size: 1}", "4"))
        self.refused("put box {label: 5, net: 1, size: 1}", Refused, "unique")
        self.refused("alter 3 label 5", Refused, "unique")
        self.refused("alter 9 label 5", Refused, "missing")
        self.refused("alter 0 anything 5", Refused, "missing")
        self.refused("alter 9 a%b 5", Refused, "missing")
        self.refused("remove 9", Refused, "missing")
        self.refused("remove 0", Refused, "missing")
        self.say(("alter 2 size 1", "done"), ("remove 1", "done"), ("drift", "net.z"), ("remove 3", "done"), ("drift", "box.z net.z"))

    def test_take(self):
        self.say(("put net {range: 1, size: 1}", "1"), ("put pad {range: 1}", "2"))
        self.refused("take net.z 3", NoThing, 3)
        self.refused("take net.z 0", NoThing, 0)
        self.refused("take net.z 2", Taken, "net.z")
        self.say(("take pad.%[ 2", "done"))
        self.refused("take pad.q 2", Recorded, 2)

    def test_errors_of_plans(self):
        self.say((wished(*box("a"), *box("b")), "done"))
        self.refused("plan", Faulty, "box.a")
        self.refused("run ok", Faulty, "box.a")
        self.say((wished(*box("a"), "deny box true"), "done"))
        self.refused("run", Denied, "box.a")
        self.say(("undo", "done"), ("undo", "done"))
        self.refused("run lost", NoProgram)


class BadLineTest(DeskCase):
    GOOD = ("wish ", "undo", "settle", "read", "move net.a net.b", "plan", "run", "run ok", "state", "put wall {size: 1}",
            "alter 1 size 2", "remove 1", "drift", "claim net.z 1", "disown net.z", "takeback net.z 1", "take net.z 1")

    def test_any_values(self):
        self.bad(*ANY_VALUES)
        self.bad(*NO_STRINGS)

    def test_words_more_and_fewer(self):
        self.desk.say(wished(*net("z")))
        self.desk.say("put wall {size: 1}")
        for line in self.GOOD[1:]:
            words = line.split(" ")
            if not line.startswith("run"):
                self.bad(line + " x")
            if len(words) > 1 and line != "run ok":
                self.bad(" ".join(words[:-1]))
            self.bad(line + " ", " " + line, line.replace(" ", "  ") if len(words) > 1 else line + "  ", line.upper())
            if words[0] not in ("move", "disown"):
                # An address is a word of any signs, but other words are not.
                self.bad(line + "\n")
            for at in range(len(words)):
                self.bad(" ".join([*words[:at], "", *words[at:]]))
        self.bad("wish", "", " ", "x", "wish\n", "WISH ", "done", "-", "move net.a", "wished ")

    def test_troubles(self):
        self.desk.say(wished(*net("z")))
        self.bad("run x", "run ok x", "run OK", "run ok  ok", "run -", "run done", "run open", "run ok,ok", "run ok / ok")
        self.assertEqual(self.desk.say("plan"), "make net.z {range: 1, size: 1}")
        # A form that is none is told ahead of what the methods raise.
        self.desk.say("undo")
        self.bad("run x")
        self.refused("run ok fail lost void crash halt", NoProgram)

    def test_numbers(self):
        for word in ("01", "-1", "+1", "1.0", "x", "1234567890123", "00", "1_0", "", "#1", "true", "\u0661"):
            self.bad(f"remove {word}", f"alter {word} size 1", f"claim net.z {word}", f"takeback net.z {word}", f"take net.z {word}")
        for word in ("0", "999999999999"):
            self.refused(f"remove {word}", Refused, "missing")
            self.refused(f"claim net.z {word}", NoRow, "net.z")
            self.refused(f"takeback net.z {word}", NoLeft, int(word))
            self.refused(f"take net.z {word}", NoThing, int(word))

    def test_put(self):
        self.bad("put", "put ", "put net", "put net {}", "put disk {}", "put net {range: 1}", "put net {size: 1, range: 1}",
                 "put net {range: 1, size: 1, zone: 1}", "put net {range: 1, size: 1} 1", "put net {range: 1, size: 1} ",
                 "put  net {range: 1, size: 1}", "put net  {range: 1, size: 1}", "put net {range: 1,size: 1}",
                 "put net {range: ?a.b, size: 1}", "put net {range: #net.z.id, size: 1}", 'put net {range: "A", size: 1}',
                 "put net {range: 1000001, size: 1}", "put net {range: [[[[]]]], size: 1}", "put {range: 1, size: 1}", "put NET {range: 1, size: 1}")
        self.assertEqual(self.desk.say("put net {range: [[[]]], size: #1.a}"), "1")

    def test_alter(self):
        self.desk.say("put net {range: 1, size: 1}")
        self.bad("alter", "alter 1", "alter 1 size", "alter 1 size ", "alter 1 zone 5", "alter 1 id 5", "alter 1 SIZE 5", "alter 1  5",
                 "alter 1 size  5", "alter 1 size 5 ", "alter 1 size 5 5", "alter 1 size x", 'alter 1 size "', "alter 1 size ?a.b",
                 "alter 1 size [1,2]", "alter 1 size 1000001", "alter 9 size x", "alter 9  5", "alter 9 size", "alter x size 5",
                 "alter 1 size #a.id")
        self.say(('alter 1 size [1, "a"]', "done"), ("alter 1 range true", "done"))

    def test_nothing_is_changed(self):
        self.desk.say(TWO_NETS)
        before = self.shown()
        self.bad("run x", "undo undo", "wish", "put net {}", "move net.z", "settle  ")
        self.assertEqual(self.shown(), before)


class SameDeedsTest(unittest.TestCase):
    """The same deeds at a desk and with a house give the same answers and errors."""

    def setUp(self):
        self.chance = random.Random(7)
        self.kinds = read_kinds(KINDS)
        self.house = House(World(self.kinds, free=("eu", "us", "eu")))
        self.desk = Desk(KINDS, ("eu", "us", "eu"))

    def line(self):
        chance = self.chance
        address = chance.choice(("net.z", "net.y", "box.c", "rock.r"))
        number = chance.choice((1, 2, 3, 4, 5))
        programs = ((*net("z"), *rock("r", "net.z.id")), net("y", "2"), (*net("z", "2"), *box("c", "net.z.id")), (), ("x",), net("z", "3"))
        return chance.choice((
            wished(*chance.choice(programs)), wished(*chance.choice(programs)), "undo", "settle", "read", "plan", "drift", "run",
            "run " + " ".join(chance.choice(("ok", "lost", "void", "fail", "crash")) for _ in range(3)), f"move {address} net.q",
            f"claim {address} {number}", f"disown {address}", f"takeback {address} {number}", f"take {address} {number}",
            f"remove {number}", f"alter {number} size {number}", "put net {range: 1, size: 1}", "put rock {net: 2, size: #1.id}"))

    def done(self, line):
        """What the line says, done with the house."""
        word, _, rest = line.partition(" ")
        words = rest.split(" ")
        house, world = self.house, self.house.world
        if word == "wish":
            house.wish(rest.replace(" / ", "\n"))
        elif word in ("undo", "settle", "read"):
            getattr(house, word)()
        elif word == "plan":
            return show_plan(house.plan()).replace("\n", " / ") or "-"
        elif word == "run":
            found = house.run(house.plan(), tuple(words) if rest else ())
            return " ".join([each for _, each in found]) or "-"
        elif word == "drift":
            return " ".join([address for address, _ in drift(house.state, world)]) or "-"
        elif word == "move":
            house.move(((words[0], words[1]),))
        elif word in ("claim", "takeback", "take"):
            getattr(house, word)(words[0], int(words[1]))
        elif word == "disown":
            house.disown(rest)
        elif word == "remove":
            world.remove(int(rest))
        elif word == "alter":
            world.alter(int(words[0]), words[1], int(words[2]))
        else:
            kind, _, record = rest.partition(" ")
            text = f"row 1 make {kind}.q make {record} 0 -"
            return str(world.put(kind, read_state(self.kinds, text).under_way[0].fields))
        return "done"

    def told(self, call, line):
        try:
            return call(line)
        except LaterError as error:
            return error.__class__, getattr(error, "value", None), getattr(error, "found", None), getattr(error, "word", None)

    def test_by_chance(self):
        answers = {}
        for _ in range(600):
            line = self.line()
            answer = self.told(self.desk.say, line)
            self.assertEqual(answer, self.told(self.done, line), line)
            self.assertEqual(self.desk.say("state"), show_state(self.house.state).replace("\n", " / ") or "-", line)
            answers[answer if isinstance(answer, str) else answer[0]] = True
        for error in (NoProgram, Unsure, Unsettled, NoRow, NoAddress, Refused, NoThing, Recorded, Taken, BadProgram):
            self.assertTrue(error in answers or error in (NoProgram, Unsettled), error)


if __name__ == "__main__":
    unittest.main()
