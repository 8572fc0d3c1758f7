"""What is in a stage, what waits, and what is raised when nothing can be done (point 12)."""

import unittest

from laterknown.errors import NoAddress, Unsettled
from laterknown.outcomes import outcome
from laterknown.programs import read_program
from laterknown.stages import Plan, plan
from laterknown.states import Row, State, state_of
from laterknown.telling import judged
from laterknown.values import Record
from samples import ANY_VALUES, KINDS, ZONED
from staged import block, planned, staged_program, staged_state, thing

GUARDED = {"rock.r": thing(1, f=0)}
ROCK = block("rock", "r")
NET = block("net", "z")


class PlanTest(unittest.TestCase):
    def test_the_program_of_the_document(self):
        found = plan(read_program(KINDS, ZONED), State())
        self.assertIsInstance(found, Plan)
        self.assertEqual(found.steps, (
            ("make", "main/box.b[0]"), ("make", "main/box.b[1]"), ("make", "net.z"), ("make", "box.c")))
        self.assertEqual(found.waiting, ("box.extra[a]",))
        self.assertEqual((len(found), bool(found)), (4, True))

    def test_the_next_stage_of_it(self):
        entries = [("net.z", 3, Record(range=9), Record(id="#3.id", zone="eu")),
                   ("box.c", 4, Record(size=1, net="#3.id", label=("c",)), Record(id="#4.id"))]
        entries += [(f"main/box.b[{at}]", at + 1, Record(size=3, net="none", label=("b", at)),
            Record(id=f"#{at + 1}.id"))
                    for at in (0, 1)]
        program = read_program(KINDS, ZONED)
        found = plan(program=program, state=state_of(KINDS, tuple(entries)))
        self.assertEqual((found.steps, found.waiting), ((("make", "box.extra[a]"),), ()))
        entries.append(("box.extra[a]", 5, Record(size=1, net="#3.id", label=("a",)), Record(id="#5.id")))
        found = plan(program, state_of(KINDS, tuple(entries)))
        self.assertEqual((found.steps, found.waiting, len(found), bool(found)), ((), (), 0, False))
        entries[0] = ("net.z", 3, Record(range=9), Record(id="#3.id", zone="us"))
        found = plan(program, state_of(KINDS, tuple(entries)))
        self.assertEqual((found.steps, found.waiting), ((("delete", "box.extra[a]"),), ()))

    def test_equal_calls(self):
        program = read_program(KINDS, ZONED)
        self.assertTrue(plan(program, State()) == plan(program, State()))
        for text in (ZONED.replace("range 9", "range 8"), ZONED.replace('["a"] else []', '["b"] else []'),
            ZONED + "\nlet x 1",
                     ZONED.replace("net.z.zone", "home").replace('"eu"', "home"), ZONED.replace("count 2", "count 1")):
            other = plan(read_program(KINDS, text), State())
            self.assertIs(plan(program, State()) == other, text.endswith("let x 1"), text)
        for value in (*ANY_VALUES, State()):
            self.assertFalse(plan(program, State()) == value)
        one, other = [plan(staged_program(), staged_state({address: thing(1)})) for address in ("net.a", "net.b")]
        self.assertFalse(one == other)

    def test_arguments_do_not_change(self):
        program, row = read_program(KINDS, ZONED), ((("net.z", "zone"), "eu"),)
        entries = (("net.z", 3, Record(range=8), Record(id="#3.id", zone="eu")),)
        state = state_of(KINDS, entries)
        for call in (plan, judged, outcome):
            call(program, state)
        outcome(program, state, row)
        self.assertEqual((program, state), (read_program(KINDS, ZONED), state_of(KINDS, entries)))
        self.assertEqual((row, State()), (((("net.z", "zone"), "eu"),), state_of(KINDS, ())))

    def test_nothing_to_do(self):
        self.assertEqual(planned((), {}), ([], []))
        self.assertEqual(planned(NET, {"net.z": thing(1)}), ([], []))
        self.assertEqual(planned(block("box", "b count 0"), {}), ([], []))

    def test_any_value_as_an_address(self):
        entries = {"net.z": thing(1), "box.a": thing(2, f=2, u=3), "box.b": thing(3, u=4), "pad.p": thing(4, f=2),
                   "box.old": thing(5, u=9)}
        rows = (*NET, *block("box", "a"), *block("box", "b", u="5"), *block("pad", "p"), *block("box", "c", u="7"),
                *block("rock", "r", h="rock.s.id"), *block("rock", "s", h='1 + "a"'))
        found = plan(staged_program(*rows), staged_state(entries))
        self.assertEqual(found.waiting, ("rock.r", "rock.s"))
        for value in ANY_VALUES + ("box.a", "box.b", "box.c", "pad.p", "box.old", "rock.r", "rock.s", "net.z",
            "box.a "):
            is_there = value in ("box.a", "box.b", "box.c", "pad.p")
            self.assertIs(value in found, is_there, value)
            if is_there:
                self.assertEqual(found[value].names, ("f", "h", "u"))
            else:
                with self.assertRaises(NoAddress) as caught:
                    found[value]
                self.assertIs(caught.exception.value, value)

    def test_rows_under_way(self):
        rows = tuple([Row(number, ("drop", 1), "drop", None, 0, None) for number in (7, 3, 5)])
        state = State().renewed({}, (), rows)
        for call in (plan, judged):
            for text in ("", "resource net z\n  range [1][1]"):
                with self.assertRaises(Unsettled) as caught:
                    call(read_program(KINDS, text), state)
                self.assertEqual(caught.exception.value, 3)


class SequenceTest(unittest.TestCase):
    def test_the_least_step_that_can_come_next(self):
        steps, _ = planned(block("net", "b count 12"), {})
        self.assertEqual(steps[:4], ["make net.b[0]", "make net.b[10]", "make net.b[11]", "make net.b[1]"])
        rows = (*block("box", "new", u="1"), *block("net", "new"), *block("box", "old", u="2", f="2"))
        entries = {"box.old": thing(20, u=4), "net.old": thing(3), "net.gone": thing(4)}
        steps, _ = planned(rows, entries, (("net.x", thing(7)), ("net.x", thing(10))))
        self.assertEqual(steps, [
            "delete net.gone", "delete net.old", "drop 7", "drop 10", "make box.new", "make box.old", "drop 20",
            "make net.new"])


class AnswersTest(unittest.TestCase):
    """Rule (a): what hangs on answers that the stage does not give."""

    def test_answers_of_the_stage(self):
        for value in ("net.z.id", "net.z.zone", '[net.z.zone == "eu"]', "[net.z.id, net.z.zone]"):
            self.assertEqual(planned((*NET, *block("box", "b", h=value)), {}), (["make net.z", "make box.b"], []),
                value)
            self.assertEqual(planned((*NET, *block("box", "b", h=value)), {"net.z": thing(1, f=0)}), (
                ["make net.z", "drop 1", "make box.b"], []), value)

    def test_answers_of_what_waits(self):
        for value in ("rock.r.id", "rock.r.zone", '[rock.r.zone == "eu"]', "[1, [rock.r.id]]"):
            rows = (*ROCK, *NET, *block("box", "b", h=value))
            self.assertEqual(planned(rows, GUARDED), (["make net.z"], ["box.b", "rock.r"]), value)
        for value in ("rock.r.f", '[rock.r.zone == "eu"] == 1'):
            rows = (*ROCK, *NET, *block("box", "b", h=value))
            self.assertEqual(planned(rows, GUARDED), (["make box.b", "make net.z"], ["rock.r"]), value)

    def test_changed_and_replaced_things(self):
        for entry, steps in ((thing(5, u=3), ["change box.b", "make net.z"]),
                             (thing(5, f=0, u=3), ["make box.b", "drop 5", "make net.z"]),
                             (thing(5, f=0), ["delete box.b", "make box.b", "make net.z"])):
            rows = (*ROCK, *NET, *block("box", "b", h="rock.r.zone"))
            self.assertEqual(planned(rows, {**GUARDED, "box.b": entry}), (["make net.z"], ["box.b", "rock.r"]))
            rows = (*ROCK, *NET, *block("box", "b", h="rock.r.f"))
            self.assertEqual(planned(rows, {**GUARDED, "box.b": entry}), (steps, ["rock.r"]))

    def test_other_actions_under_other_rows(self):
        change = block("box", "b", h='[net.z.zone == "eu"]')
        self.assertEqual(planned((*NET, *change), {"box.b": thing(5, h=(True,))}), (["make net.z"], ["box.b"]))
        self.assertEqual(planned((*NET, *change), {"box.b": thing(5, h=True)}), (["make net.z", "change box.b"], []))
        each = block("box", 'b each if net.z.zone == "eu" then ["x"] else []')
        self.assertEqual(planned((*NET, *each), {}), (["make net.z"], ["box.b[x]"]))
        self.assertEqual(planned((*NET, *each), {"box.b[x]": thing(5)}), (["make net.z"], ["box.b[x]"]))
        self.assertEqual(planned((*NET, *each), {"net.z": thing(1, zone="eu")}), (["make box.b[x]"], []))

    def test_what_hangs_on_what_waits_for_an_answer(self):
        rows = (*NET, *block("box", 'b each if net.z.zone == "eu" then ["x"] else []', h="net.z.id"),
                *block("box", "c", u="1", h="box.b[*].id"), *block("box", "d", u="2", h="len(box.b[*].id)"),
                *block("box", "e", u="3", h="box.b[*].f"))
        self.assertEqual(planned(rows, {}), (["make net.z", "make box.d", "make box.e"], ["box.b[x]", "box.c"]))

    def test_two_answers_one_of_which_waits(self):
        rows = (*NET, *ROCK, *block("box", "b", h='net.z.zone == "eu" and rock.r.zone == "eu"'))
        self.assertEqual(planned(rows, GUARDED), (["make net.z"], ["box.b", "rock.r"]))
        rows = (*NET, *ROCK, *block("box", "b", h="net.z.zone == rock.r.zone"))
        self.assertEqual(planned(rows, GUARDED), (["make net.z"], ["box.b", "rock.r"]))
        rows = (*NET, *block("net", "y"), *block("box", "b", h="net.z.zone == net.y.zone"))
        self.assertEqual(planned(rows, GUARDED | {"rock.r": thing(1)})[0][-1], "make box.b")


class HoldersTest(unittest.TestCase):
    """Rule (b), and which things are dropped."""

    def test_a_delete_of_a_held_thing(self):
        entries = {"net.old": thing(1), "box.b": thing(2, h="#1.id")}
        self.assertEqual(planned((), entries), (["delete box.b", "delete net.old"], []))
        self.assertEqual(planned(block("box", "b"), entries), (["change box.b", "delete net.old"], []))
        self.assertEqual(planned(block("box", "b", f="2"), entries),
            (["delete box.b", "delete net.old", "make box.b"], []))
        self.assertEqual(planned(block("box", "b", f="2", u="3"), entries),
            (["make box.b", "drop 2", "delete net.old"], []))

    def test_a_holder_that_waits(self):
        entries = {"net.old": thing(1), "rock.r": thing(2, h="#1.id"), "box.x": thing(3)}
        self.assertEqual(planned(block("rock", "r", f="2"), entries), (["delete box.x"], ["net.old", "rock.r"]))
        self.assertEqual(planned(block("rock", "r"), entries), (
            ["change rock.r", "delete box.x", "delete net.old"], []))
        entries = {"box.old": thing(1), "rock.r": thing(2, h="#1.id")}
        self.assertEqual(planned(block("rock", "r", f="2"), entries), (["delete box.old"], ["rock.r"]))

    def test_a_replaced_thing_that_is_held(self):
        rows = (*block("pad", "p"), *block("box", "b", h="pad.p.id"))
        entries = {"pad.p": thing(1, f=0), "box.b": thing(2, h="#1.id")}
        self.assertEqual(planned(rows, entries), (["delete box.b", "delete pad.p", "make pad.p", "make box.b"], []))
        rows = (*block("pad", "p"), *block("box", "b"))
        self.assertEqual(planned(rows, entries), (["change box.b", "delete pad.p", "make pad.p"], []))
        rows = (*block("pad", "p"), *block("rock", "r", f="2"), *block("net", "n", h="pad.p.id"))
        entries = {"pad.p": thing(1, f=0), "rock.r": thing(2, h="#1.id"), "net.x": thing(3)}
        self.assertEqual(planned(rows, entries), (["delete net.x"], ["net.n", "pad.p", "rock.r"]))

    def test_holders_that_are_left(self):
        left = (("box.x", thing(7, h="#1.id")),)
        self.assertEqual(planned((), {"net.old": thing(1)}, left), (["drop 7", "delete net.old"], []))
        self.assertEqual(planned((), {"box.old": thing(1)}, left), (["delete box.old", "drop 7"], []))
        left = (("net.x", thing(7, h="#1.id")), ("box.x", thing(8, h="#7.id")), ("net.x", thing(6, h="#8.id")))
        self.assertEqual(planned((), {"net.old": thing(1)}, left),
            (["drop 6", "drop 8", "drop 7", "delete net.old"], []))

    def test_left_things_that_are_held(self):
        left = (("net.x", thing(7)), ("box.x", thing(8)), ("net.x", thing(9, h="#7.id")))
        self.assertEqual(planned((), {}, left), (["drop 8", "drop 9", "drop 7"], []))
        rock = {"rock.r": thing(1, h=("#9.id", "#8.id"))}
        self.assertEqual(planned(block("rock", "r", f="2"), rock, left), (["drop 8"], ["left 7", "left 9", "rock.r"]))
        self.assertEqual(planned(block("rock", "r"), rock, left), (["change rock.r", "drop 8", "drop 9", "drop 7"], []))

    def test_what_waits_ascending(self):
        left = tuple([("net.x", thing(number)) for number in (2, 10, 9)])
        rock = {"rock.r": thing(1, h=("#9.id", "#10.id", "#2.id")), "box.x": thing(3)}
        self.assertEqual(planned(block("rock", "r", f="2"), rock, left), (
            ["delete box.x"], ["left 10", "left 2", "left 9", "rock.r"]))

    def test_the_old_thing_of_what_is_replaced(self):
        rows = (*NET, *block("box", "b", h="net.z.id"))
        entries = {"net.z": thing(1, f=0), "box.b": thing(2, h="#1.id")}
        self.assertEqual(planned(rows, entries), (["make net.z", "change box.b", "drop 1"], []))
        rows = (*NET, *block("rock", "r", f="2"))
        entries = {"net.z": thing(1, f=0), "rock.r": thing(2, h="#1.id")}
        # The new thing is made all the same, and the old one is left.
        self.assertEqual(planned(rows, entries), (["make net.z"], ["rock.r"]))
        rows = (*block("box", "z", u="5"), *block("rock", "r", f="2"))
        entries = {"box.z": thing(1, f=0), "rock.r": thing(2, h="#1.id")}
        self.assertEqual(planned(rows, entries), (["make box.z", "drop 1"], ["rock.r"]))

    def test_what_waits_is_not_dropped(self):
        rows = (*ROCK, *block("net", "z", h="rock.r.id"), *block("box", "x"))
        entries = {**GUARDED, "net.z": thing(5, f=0)}
        self.assertEqual(planned(rows, entries), (["make box.x"], ["net.z", "rock.r"]))

    def test_a_left_thing_beside_the_new_one_of_its_address(self):
        # The thing that is left stays, though that of its address goes.
        left = (("net.x", thing(9, h="#1.id")),)
        entries = {"net.old": thing(1), "net.x": thing(2), "rock.r": thing(3, h="#9.id")}
        self.assertEqual(planned(block("rock", "r", f="2"), entries, left), (
            ["delete net.x"], ["left 9", "net.old", "rock.r"]))
        left = (("hub.x", thing(9, u=5)),)
        entries = {"hub.x": thing(2, u=6), "rock.r": thing(3, h="#9.id")}
        rows = (*block("rock", "r", f="2"), *block("hub", "n", u="5"))
        self.assertEqual(planned(rows, entries, left), (["delete hub.x"], ["hub.n", "left 9", "rock.r"]))

    def test_a_left_thing_beside_a_changed_one(self):
        left = (("net.x", thing(9, h="#1.id")),)
        entries = {"net.old": thing(1), "net.x": thing(2), "rock.r": thing(3, h="#9.id")}
        rows = (*block("rock", "r", f="2"), *block("net", "x", u="1"))
        self.assertEqual(planned(rows, entries, left), (["change net.x"], ["left 9", "net.old", "rock.r"]))

    def test_guarded_left_things_are_dropped(self):
        self.assertEqual(planned((), {}, (("rock.r", thing(7)),)), (["drop 7"], []))


class UniqueTest(unittest.TestCase):
    """Rule (c)."""

    def test_things_that_go(self):
        for kind in ("box", "hub"):
            new = block(kind, "n", u="5")
            self.assertEqual(planned(new, {f"{kind}.o": thing(1, u=5)}), ([f"delete {kind}.o", f"make {kind}.n"], []))
            self.assertEqual(planned(new, {}, ((f"{kind}.n", thing(1, u=5)),)), (["drop 1", f"make {kind}.n"], []))
            rows = (*new, *block(kind, "o", u="6"))
            self.assertEqual(planned(rows, {f"{kind}.o": thing(1, u=5)}), ([f"change {kind}.o", f"make {kind}.n"], []))
            rows = (*new, *block(kind, "o", f="2", u="6"))
            self.assertEqual(planned(rows, {f"{kind}.o": thing(1, u=5)}), (
                [f"make {kind}.o", "drop 1", f"make {kind}.n"], []))

    def test_a_left_thing_that_stays(self):
        rock = {"rock.r": thing(1, h="#9.id"), "net.x": thing(2)}
        left = (("hub.o", thing(9, u=5)),)
        guard = block("rock", "r", f="2")
        for new, waiting in ((block("hub", "n", u="5"), ["hub.n"]), (block("hub", "n", u="6"), []),
                             (block("hub", "n", u="true"), []), (block("net", "n", u="5"), [])):
            steps = ["delete net.x"] if waiting else ["delete net.x", f"make {new[0][9:12]}.n"]
            self.assertEqual(planned((*guard, *new), rock, left), (steps, [*waiting, "left 9", "rock.r"]))
        # The same with a change, and with a replacement.
        for entry, steps in ((thing(4, u=6), "change hub.n"), (thing(4, f=0, u=6), "make hub.n")):
            self.assertEqual(planned((*guard, *block("hub", "n", u="5")), {**rock, "hub.n": entry}, left), (
                ["delete net.x"], ["hub.n", "left 9", "rock.r"]))
            found, waiting = planned((*guard, *block("hub", "n", u="7")), {**rock, "hub.n": entry}, left)
            self.assertIn(steps, found)
            self.assertEqual(waiting, ["left 9", "rock.r"])

    def test_a_unique_field_that_is_not_changed(self):
        rock = {"rock.r": thing(1, h="#9.id"), "hub.n": thing(4, u=5)}
        left = (("hub.o", thing(9, u=5)),)
        rows = (*block("rock", "r", f="2"), *block("hub", "n", u="5", h="1"))
        self.assertEqual(planned(rows, rock, left), (["change hub.n"], ["left 9", "rock.r"]))

    def test_an_entry_that_stays(self):
        rows = (*ROCK, *block("box", "n", u="5"), *NET)
        entries = {**GUARDED, "box.o": thing(2, u=5)}
        self.assertEqual(planned(rows, entries), (["delete box.o", "make box.n", "make net.z"], ["rock.r"]))
        rows = (*rows, *block("box", "o", u="6", h="rock.r.id"))
        self.assertEqual(planned(rows, entries), (["make net.z"], ["box.n", "box.o", "rock.r"]))

    def test_a_value_that_is_given_up_under_some_rows(self):
        old = 'if net.z.zone == "eu" then %s else 6'
        rows = (*NET, *block("box", "n", u='if net.z.zone == "eu" then 7 else 5'))
        entries = {"box.o": thing(2, u=5, h=9)}
        self.assertEqual(planned((*rows, *block("box", "o", u=old % "5")), entries), (
            ["make net.z", "change box.o"], ["box.n"]))
        self.assertEqual(planned((*rows, *block("box", "o", u=old % "8")), entries), (
            ["make net.z", "change box.o", "make box.n"], []))

    def test_a_value_that_is_alike_under_some_row_alone(self):
        left = (("hub.o", thing(9, u="eu")),)
        rock = {"rock.r": thing(1, h="#9.id")}
        rows = (*block("rock", "r", f="2"), *NET)
        self.assertEqual(planned((*rows, *block("hub", "n", u="net.z.zone")), rock, left), (
            ["make net.z"], ["hub.n", "left 9", "rock.r"]))
        self.assertEqual(planned((*rows, *block("hub", "n", u="[net.z.zone]")), rock, left), (
            ["make net.z", "make hub.n"], ["left 9", "rock.r"]))

    def test_the_own_old_thing_does_not_matter(self):
        self.assertEqual(planned(block("box", "n", f="2", u="5"), {"box.n": thing(1, u=5)}), (
            ["delete box.n", "make box.n"], []))
        self.assertEqual(planned(block("box", "n", u="5", h="1"), {"box.n": thing(1, u=5)}), (["change box.n"], []))


class WaitingTest(unittest.TestCase):
    def test_blocks_that_cannot_be_evaluated(self):
        rows = (*NET, *block("box", 'b count if net.z.zone == "eu" then 13 else 1'), *block("box", "c count 13"))
        entries = {"box.c[0]": thing(1)}
        self.assertEqual(planned(rows, entries), (["make net.z"], ["box.b", "box.b[0]", "box.c", "box.c[0]"]))
        rows = (*NET, "module m", *[f"  {row}" for row in block("box", "b count 13")], "use m w")
        self.assertEqual(planned(rows, {}), (["make net.z"], ["w/box.b"]))

    def test_faults_under_some_rows(self):
        rows = (*NET, *block("box", "b", h='if net.z.zone == "eu" then 1 + "a" else 2'))
        self.assertEqual(planned(rows, {}), (["make net.z"], ["box.b"]))
        self.assertEqual(planned(rows, {"net.z": thing(1, zone="eu")}), ("Faulty", "box.b", "evaluate"))
        self.assertEqual(planned(rows, {"net.z": thing(1, zone="us")}), (["make box.b"], []))

    def test_unique_values_that_may_be_alike(self):
        rows = (*NET, *block("net", "y"), *block("box", "b", u="net.z.zone"), *block("box", "c", u="net.y.zone"))
        self.assertEqual(planned(rows, {}), (["make net.y", "make net.z"], ["box.b", "box.c"]))
        entries = {"net.z": thing(1, zone="eu")}
        self.assertEqual(planned(rows, entries), (["make net.y"], ["box.b", "box.c"]))
        entries["net.y"] = thing(2, zone="us")
        self.assertEqual(planned(rows, entries), (["make box.b", "make box.c"], []))
        entries["net.y"] = thing(2, zone="eu")
        self.assertEqual(planned(rows, entries), ("Faulty", "box.b", "unique"))


class ErrorsTest(unittest.TestCase):
    def test_faulty_addresses(self):
        bad = block("net", "b", h='1 + "a"')
        self.assertEqual(planned(bad, {}), ("Faulty", "net.b", "evaluate"))
        self.assertEqual(planned((*bad, *block("net", "a", h="net.b.h")), {}), ("Faulty", "net.a", "evaluate"))
        self.assertEqual(planned((*bad, *block("net", "c", h="net.b.id")), {}), ("Faulty", "net.b", "evaluate"))
        self.assertEqual(planned(ROCK, GUARDED), ("Faulty", "rock.r", "guarded"))
        self.assertEqual(planned((), GUARDED), ("Faulty", "rock.r", "guarded"))
        self.assertEqual(planned((*ROCK, *block("net", "a", h="rock.r.id")), GUARDED), ("Faulty", "rock.r", "guarded"))
        rows = (*block("box", "b"), *block("box", "a"))
        self.assertEqual(planned(rows, {}), ("Faulty", "box.a", "unique"))

    def test_faulty_blocks(self):
        rows = (*block("box", "c count 13"), *block("box", "d count 13"))
        self.assertEqual(planned(rows, {}), ("Faulty", "box.c", "evaluate"))
        self.assertEqual(planned((*rows, *block("box", "e", h="box.c[*].f")), {}), ("Faulty", "box.c", "evaluate"))
        self.assertEqual(planned((*rows, *block("box", "a", h="box.c[*].f")), {}), ("Faulty", "box.a", "evaluate"))
        self.assertEqual(planned(rows, {"box.c[0]": thing(1)}), ("Faulty", "box.c", "evaluate"))
        self.assertEqual(planned(rows[4:], {"box.c": thing(1), "box.d": thing(2, u=1), "box.d[1]": thing(3, u=2)})[0],
                         ["delete box.c"])
        self.assertEqual(planned(rows[4:], {"box.d[1]": thing(3, u=2)}), ("Faulty", "box.d", "evaluate"))

    def test_no_error_beside_a_step(self):
        self.assertEqual(planned((*ROCK, *NET), GUARDED), (["make net.z"], ["rock.r"]))
        self.assertEqual(planned(ROCK, GUARDED, (("net.x", thing(5)),)), (["drop 5"], ["rock.r"]))

    def test_the_word_under_the_empty_row(self):
        # The net waits for its holder, which has another fault under another row.
        for value, word in (('if rock.r.zone == "eu" then [1][1] else 5', "unique"),
                            ('if rock.r.zone == "eu" then 5 else [1][1]', "evaluate")):
            rows = (*ROCK, *block("box", "a", u=value), *block("box", "b", u="5"))
            self.assertEqual(planned(rows, GUARDED | {"box.b": thing(2, u=5)}), ("Faulty", "box.a", word))

    def test_faulty_under_all_rows_alone(self):
        # The pad waits for the box, and the box has a fault under some rows.
        rows = (*block("pad", "p"), *block("box", "b", h='if pad.p.zone == "eu" then 1 + "a" else pad.p.id'))
        entries = {"pad.p": thing(1, f=0), "box.b": thing(2, h="#1.id")}
        self.assertEqual(planned(rows, entries), ("Stuck", ("box.b", "pad.p")))
        rows = (*block("pad", "p"), *block("box", "b count if pad.p.zone == \"eu\" then 13 else 1", h="pad.p.id"))
        entries = {"pad.p": thing(1, f=0), "box.b[0]": thing(2, h="#1.id")}
        self.assertEqual(planned(rows, entries), ("Stuck", ("box.b", "box.b[0]", "pad.p")))
        entries["net.x"] = thing(3)
        self.assertEqual(planned(rows, entries), (["delete net.x"], ["box.b", "box.b[0]", "pad.p"]))

    def test_stuck_with_a_left_thing(self):
        rows = (*block("pad", "p"), *block("box", "b", h='if pad.p.zone == "eu" then 1 + "a" else pad.p.id'))
        entries = {"pad.p": thing(1, f=0), "box.b": thing(2, h=("#1.id", "#3.id"))}
        self.assertEqual(planned(rows, entries, (("net.x", thing(3)),)), ("Stuck", ("box.b", "left 3", "pad.p")))


if __name__ == "__main__":
    unittest.main()
