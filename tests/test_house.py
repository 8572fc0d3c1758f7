"""Houses: wishes, moves, refactorings, undo, plans, trials (section 16)."""

import unittest

from laterknown.errors import (
    BadProgram, Doubled, Faulty, NoAddress, NoBlock, NoProgram, NoRow, NothingToUndo, Ring, Taken, Unnamed, Unsettled,
    Unsure,
)
from laterknown.house import House, Trial, tried
from laterknown.programs import read_program, show_program
from laterknown.stages import plan
from laterknown.states import State
from laterknown.texts import show_state
from laterknown.worlds import World
from housed import HOUSED, a_house, box, finish, net, ran, recorded, rock, settled_house, shown
from samples import NO_STRINGS, lines

NET = "{range: 1, size: 1} {id: #1.id, zone: \"eu\"}"
# Entries of boxes and rocks, left things and rows under way.
RICH = (
    'box.a 3 {label: "a", net: 2, size: 1} {id: #3.id}', 'box.b 4 {label: "b", net: 2, size: 1} {id: #4.id}',
    'rock.r 5 {net: 2, size: 1} {id: #5.id}', 'left box.l 6 {label: "l", net: 2, size: 1} {id: #6.id}',
    'left box.a 7 {label: "m", net: 2, size: 1} {id: #7.id}', 'row 1 make box.n make {label: "n", net: 2, size: 1} 0 -',
    'row 2 change box.b change {label: "b", net: 2, size: 5} 0 9', "row 3 drop 6 drop - 0 -", "row 4 delete rock.r delete - 0 -")


class HouseCase(unittest.TestCase):
    def refused(self, house, error, call, *arguments):
        """The value of an error; the call changes nothing."""
        before = shown(house)
        with self.assertRaises(error) as caught:
            call(*arguments)
        self.assertIs(caught.exception.__class__, error)
        self.assertEqual(shown(house), before)
        return getattr(caught.exception, "value", None)

    def check_state(self, house, *rows):
        self.assertEqual(show_state(house.state), lines(*rows))


class WishTest(HouseCase):
    def test_at_first(self):
        world = World(HOUSED)
        house = House(world=world)
        self.assertIsNone(house.program)
        self.assertEqual(house.state, State())
        self.assertIs(house.world, world)

    def test_wishes(self):
        house = a_house()
        self.assertIsNone(house.wish(text=lines(*net("z"))))
        self.assertEqual(house.program, read_program(HOUSED, lines(*net("z"))))
        self.assertIs(house.program.kinds, HOUSED)
        house.wish("")
        self.assertEqual(house.program, read_program(HOUSED, ""))
        self.assertEqual((len(house.state), len(house.world)), (0, 0))

    def test_what_cannot_be_read(self):
        for house in (a_house(), a_house(*net("z"))):
            for value in NO_STRINGS:
                self.assertEqual(self.refused(house, BadProgram, house.wish, value), 0)
            self.assertEqual(self.refused(house, BadProgram, house.wish, "let a 1\n"), 1)
            self.assertEqual(self.refused(house, Doubled, house.wish, "let a 1\nlet a 1"), 1)
            self.assertEqual(self.refused(house, Unnamed, house.wish, "resource disk a"), 0)
        house = a_house()
        self.refused(house, BadProgram, house.wish, "x")
        self.refused(house, NothingToUndo, house.undo)


class PlanTest(HouseCase):
    def test_plan(self):
        house = a_house(*net("z"), *box("c", net="net.z.id"))
        self.assertEqual(house.plan(), plan(house.program, house.state))
        self.assertEqual(house.plan().steps, (("make", "net.z"), ("make", "box.c")))

    def test_without_a_program(self):
        house = a_house()
        self.refused(house, NoProgram, house.plan)
        recorded(house, *RICH)
        self.refused(house, NoProgram, house.plan)

    def test_rows_under_way(self):
        house = a_house(*net("z"), *net("y"))
        ran(house, "void", "lost")
        # The row of net.y, which comes first, has two candidates; no thing is recorded yet.
        with self.assertRaises(Unsure) as caught:
            house.plan()
        self.assertEqual((caught.exception.value, caught.exception.found), ("net.z", (1,)))
        house.world.remove(1)
        self.assertEqual(self.refused(house, Unsettled, house.plan), 1)
        house.disown("net.y")
        self.assertEqual(self.refused(house, Unsettled, house.plan), 2)
        house.wish("resource wall a\n  size true + 1")
        self.assertEqual(self.refused(house, Unsettled, house.plan), 2)
        house.disown("net.z")
        self.assertEqual(self.refused(house, Faulty, house.plan), "wall.a")

    def test_the_least_row_with_candidates(self):
        house = a_house(*net("a"), *net("b"), *net("c", "5"), *net("d", "5"))
        ran(house, "void", "void", "lost", "lost")
        with self.assertRaises(Unsure) as caught:
            house.plan()
        self.assertEqual((caught.exception.value, caught.exception.found), ("net.c", (1,)))
        house.world.put("net", house.world[1].fields)
        self.assertEqual(house.candidates_of(3), (1,))

    def test_what_plan_raises(self):
        house = a_house(*box("a", label="1"), *box("b", label="1"))
        self.assertEqual(self.refused(house, Faulty, house.plan), "box.a")
        house = settled_house(*box("a", label="1"), *box("b", label="2"))
        house.wish(lines(*box("a", label="2"), *box("b", label="1")))
        self.assertEqual(sorted(self.refused(house, Ring, house.plan)), [("change", "box.a"), ("change", "box.b")])


class MoveTest(HouseCase):
    def rich(self):
        house = a_house(*net("z"))
        recorded(house, *RICH)
        return house

    def test_an_entry(self):
        house = settled_house(*net("z"))
        self.assertIsNone(house.move(pairs=(("net.z", "net.y"),)))
        self.check_state(house, f"net.y 1 {NET}")
        self.assertEqual(house.program.blocks, ("net.z",))
        self.assertEqual(house.world.numbers, (1,))

    def test_entries_left_things_and_rows(self):
        house = self.rich()
        house.move((("box.a", "box.x"), ("box.l", "box.y"), ("box.n", "box.o"), ("rock.r", "rock.s"), ("box.b", "box.b")))
        self.check_state(
            house, RICH[1], RICH[0].replace("box.a", "box.x"), RICH[2].replace(".r", ".s"), RICH[3].replace(".l", ".y"),
            RICH[4].replace("box.a", "box.x"), RICH[5].replace(".n", ".o"), *RICH[6:8], RICH[8].replace(".r", ".s"))

    def test_a_ring(self):
        house = self.rich()
        house.move((("box.a", "box.b"), ("box.b", "box.l"), ("box.l", "box.a")))
        self.check_state(
            house, RICH[0].replace("box.a", "box.b"), RICH[1].replace("box.b", "box.l"), RICH[2],
            RICH[3].replace("box.l", "box.a"), RICH[4].replace("box.a", "box.b"), RICH[5], RICH[6].replace("box.b", "box.l"),
            *RICH[7:])

    def test_a_chain(self):
        house = self.rich()
        house.move((("box.a", "box.b"), ("box.b", "box.q")))
        self.assertEqual([house.state[address].number for address in ("box.b", "box.q")], [3, 4])
        self.assertNotIn("box.a", house.state)

    def test_one_behind_the_other(self):
        house = self.rich()
        for pair in (("box.a", "box.q"), ("box.b", "box.a"), ("box.q", "box.b")):
            house.move((pair,))
        self.assertEqual([house.state[address].number for address in ("box.a", "box.b")], [4, 3])
        # The left thing that stood at box.a went with it.
        self.assertEqual([place for place, _ in house.state.left], ["box.l", "box.b"])

    def test_nothing_there(self):
        house = self.rich()
        for pairs, least in (
                ((("box.z", "box.y"),), "box.z"), ((("box.z", "box.y"), ("box.c", "box.w")), "box.c"),
                ((("box.a", "rock.r"), ("box.z", "box.y")), "box.z"), ((("6", "box.y"),), "6"), ((("", "box.y"),), ""),
                ((("net.z", "net.z"),), "net.z")):
            self.assertEqual(self.refused(house, NoAddress, house.move, pairs), least)

    def test_taken(self):
        house = self.rich()
        for pairs, least in (
                ((("box.a", "box.b"),), "box.b"), ((("box.a", "box.n"),), "box.n"), ((("box.l", "box.n"), ("box.b", "box.a")), "box.a"),
                ((("box.a", "rock.q"),), "rock.q"), ((("box.a", "rock.r"), ("box.b", "box.n")), "box.n"),
                ((("box.a", "box"), ("box.b", "rock")), "rock"), ((("box.a", "net.q"), ("box.b", "disk.q")), "disk.q"),
                ((("rock.r", "main/box.r"),), "main/box.r")):
            self.assertEqual(self.refused(house, Taken, house.move, pairs), least)
        # A left thing stands in nobody's way.
        house.move((("box.a", "box.l"), ("rock.r", "main/rock.r[5]")))
        self.assertEqual(house.state["box.l"].number, 3)

    def test_nothing(self):
        house = self.rich()
        house.move(())
        self.check_state(house, *RICH)
        house.undo()
        self.assertEqual(house.program, read_program(HOUSED, lines(*net("z"))))
        house.undo()
        self.assertIsNone(house.program)


class RefactorTest(HouseCase):
    def test_renamed(self):
        house = settled_house(*net("z"), *box("c", net="net.z.id"))
        self.assertIsNone(house.refactor("renamed", "net", "z", "y"))
        self.assertEqual(house.program, read_program(HOUSED, lines(*net("y"), *box("c", net="net.y.id"))))
        self.assertEqual(house.state.addresses, ("box.c", "net.y"))
        self.assertEqual(finish(house), [])

    def test_all_of_them(self):
        house = settled_house(*net("z"), *net("k each [\"a\"]", "each"), *box("c", net="net.z.id", label="net.z.zone"))
        house.refactor("counted", "net", "z")
        self.assertEqual(house.state.addresses, ("box.c", "net.k[a]", "net.z[0]"))
        house.refactor("split", "net", "k", ("l",))
        house.refactor("wrapped", (("net", "z"), ("box", "c")), "mod", "main")
        self.assertEqual(house.state.addresses, ("main/box.c", "main/net.z[0]", "net.l"))
        self.assertEqual((finish(house), house.world.numbers), ([], (1, 2, 3)))

    def test_something_to_move(self):
        house = a_house(*net("z"), *net("y"))
        recorded(house, 'left net.z 5 {range: 1, size: 1} {id: #5.id, zone: ""}', "row 1 make net.y make {range: 1, size: 1} 0 -")
        house.refactor("renamed", "net", "z", "a")
        house.refactor("renamed", "net", "y", "b")
        self.check_state(house, 'left net.a 5 {range: 1, size: 1} {id: #5.id, zone: ""}',
                         "row 1 make net.b make {range: 1, size: 1} 0 -")

    def test_errors(self):
        house = a_house()
        for arguments in (("renamed", "net", "z", "IF"), ("wrapped", (), "IF", 1)):
            self.refused(house, NoProgram, house.refactor, *arguments)
        house = settled_house(*net("z"))
        self.assertEqual(self.refused(house, NoBlock, house.refactor, "renamed", "net", 5, "y"), ("net", 5))
        recorded(house, f"net.y 2 {NET.replace('#1', '#2')}", f"net.z 1 {NET}")
        self.assertEqual(self.refused(house, Taken, house.refactor, "renamed", "net", "z", "y"), "net.y")
        self.assertEqual(house.program.blocks, ("net.z",))
        recorded(house, f"net.z 1 {NET}", "row 4 delete net.y delete - 0 1")
        self.assertEqual(self.refused(house, Taken, house.refactor, "renamed", "net", "z", "y"), "net.y")
        # Where there is nothing to move, nothing stands in the way.
        recorded(house, f"net.y 1 {NET}")
        house.refactor("renamed", "net", "z", "y")
        self.assertEqual(finish(house), [])
        house.undo()
        house.undo()
        self.refused(house, NothingToUndo, house.undo)


class UndoTest(HouseCase):
    def test_nothing_to_undo(self):
        house = a_house()
        self.refused(house, NothingToUndo, house.undo)
        house.wish("")
        self.assertIsNone(house.undo())
        self.assertIsNone(house.program)
        self.refused(house, NothingToUndo, house.undo)

    def test_wishes(self):
        house = a_house(*net("z"))
        first = house.program
        house.wish("")
        house.wish(lines(*net("y")))
        house.undo()
        self.assertEqual(house.program, read_program(HOUSED, ""))
        house.undo()
        self.assertEqual(house.program, first)
        house.undo()
        self.assertIsNone(house.program)

    def test_nothing_changes_in_the_world(self):
        house = settled_house(*net("z"))
        house.wish("")
        finish(house)
        house.undo()
        self.assertEqual((len(house.world), len(house.state)), (0, 0))
        self.assertEqual(finish(house), ["make net.z done"])
        house.undo()
        self.assertEqual((house.world.numbers, house.state.addresses), ((2,), ("net.z",)))

    def test_what_was_wished_behind_an_undo(self):
        house = a_house(*net("z"))
        house.wish("")
        house.undo()
        house.wish(lines(*net("y")))
        house.undo()
        self.assertEqual(house.program.blocks, ("net.z",))

    def test_moves(self):
        house = settled_house(*net("z"), *net("y", "2"))
        before = show_state(house.state)
        house.move((("net.z", "net.y"), ("net.y", "net.x")))
        house.move((("net.x", "net.z"),))
        house.undo()
        self.assertEqual(house.state.addresses, ("net.x", "net.y"))
        house.undo()
        self.assertEqual(show_state(house.state), before)

    def test_what_was_recorded_since(self):
        house = a_house(*net("z"))
        house.refactor("renamed", "net", "z", "y")
        finish(house)
        self.assertEqual(house.state.addresses, ("net.y",))
        house.undo()
        self.assertEqual((house.state.addresses, house.program.blocks), (("net.z",), ("net.z",)))
        self.assertEqual(finish(house), [])

    def test_rows_and_left_things_that_came_since(self):
        house = settled_house(*net("z"))
        house.refactor("renamed", "net", "z", "y")
        house.wish(lines(*net("y", "5")))
        self.assertEqual(ran(house, "ok", "lost"), ["make net.y done", "drop 1 open"])
        house.wish(lines(*net("y", "6")))
        house.settle()
        recorded(house, show_state(house.state), "row 9 make net.y ahead {range: 6, size: 1} 2 -")
        house.undo()
        house.undo()
        house.undo()
        self.assertEqual((house.state.addresses, house.state.under_way[0].step), (("net.z",), ("make", "net.z")))

    def test_a_left_thing_that_stood_at_the_new_address(self):
        house = settled_house(*net("z"))
        recorded(house, f"net.z 1 {NET}", 'left net.y 5 {range: 1, size: 1} {id: #5.id, zone: ""}')
        house.move((("net.z", "net.y"),))
        house.undo()
        self.check_state(house, f"net.z 1 {NET}", 'left net.z 5 {range: 1, size: 1} {id: #5.id, zone: ""}')

    def test_an_entry_that_stands_in_the_way(self):
        house = settled_house(*net("z"))
        house.move((("net.z", "net.y"),))
        house.wish(lines(*net("z"), *net("y")))
        self.assertEqual(finish(house), ["make net.z done"])
        house.undo()
        self.assertEqual(house.state.addresses, ("net.y", "net.z"))
        house.undo()
        self.check_state(house, f"net.z 1 {NET}", 'left net.z 2 {range: 1, size: 1} {id: #2.id, zone: "us"}')
        # One thing is wished for at this address, so the other one goes.
        self.assertEqual(finish(house), ["drop 2 done"])

    def test_several_deeds(self):
        house = settled_house(*net("z"), *rock("r", net="net.z.id"))
        shots = [(show_state(house.state), house.program)]
        for deed in (lambda: house.refactor("counted", "net", "z"), lambda: house.move((("rock.r", "rock.s"),)),
                     lambda: house.wish(""), lambda: house.refactor("renamed", "net", "z", "y"),
                     lambda: house.move((("net.z[0]", "net.k"),))):
            try:
                deed()
                shots.append((show_state(house.state), house.program))
            except NoBlock:
                pass
        self.assertEqual(len(shots), 5)
        while len(shots) > 1:
            self.assertEqual((show_state(house.state), house.program), shots.pop())
            house.undo()
        self.assertEqual((show_state(house.state), house.program), shots[0])


class TrialTest(HouseCase):
    def deeds(self, held):
        finish(held)
        held.move((("net.z", "net.y"),))
        held.wish(lines(*net("y"), *rock("r")))
        ran(held, "lost")
        held.world.put("net", held.world[1].fields)
        held.undo()
        return len(held.world)

    def test_a_trial_changes_nothing(self):
        house = a_house(*net("z"))
        before = shown(house)
        with Trial(house) as held:
            self.assertIsInstance(held, House)
            self.assertEqual(shown(held), before)
            self.assertEqual(self.deeds(held), 3)
        self.assertEqual(shown(house), before)
        # Neither a number nor a free answer was taken.
        self.assertEqual(finish(house), ["make net.z done"])
        self.check_state(house, f"net.z 1 {NET}")
        self.assertEqual(tried(house, lambda held: held.world.make("rock", rock_fields(house))), 2)
        self.assertEqual(len(house.world), 1)

    def test_the_house_changes_nothing_in_a_trial(self):
        house = a_house(*net("z"))
        with Trial(house=house) as held:
            finish(house)
            house.wish("")
            self.assertEqual((len(held.world), len(held.state), held.program.blocks), (0, 0, ("net.z",)))

    def test_history_and_numbers_of_rows(self):
        house = a_house(*net("z"), *net("y"))
        ran(house, "void", "fail")
        with Trial(house) as held:
            held.undo()
            with self.assertRaises(NothingToUndo):
                held.undo()
            self.assertIsNone(held.late(2, False))
            self.assertRaises(NoRow, held.late, 3, False)
            held.settle()
        self.assertEqual(house.state.under_way[0].number, 1)
        house.undo()
        self.assertIsNone(house.program)

    def test_tokens_and_free_answers(self):
        house = settled_house(*box("a", label='"a"'))
        with Trial(house) as held:
            held.wish(lines(*box("a", label='"a"'), *box("b", label='"b"')))
            ran(held, "lost")
            held.settle()
            self.assertEqual(held.state["box.b"].number, 2)
        house.wish(lines(*net("z")))
        finish(house)
        self.assertEqual(house.state["net.z"].answers["zone"], "eu")

    def test_tried(self):
        house = a_house(*net("z"))
        before = shown(house)
        self.assertEqual(tried(house, self.deeds), 3)
        self.assertEqual(tried(house=house, look=lambda held: (held.plan().steps, held.undo())), ((("make", "net.z"),), None))
        self.assertIsNone(tried(house, lambda held: held.wish("")))
        self.assertEqual(shown(house), before)

    def test_when_look_raises(self):
        house = a_house(*net("z"))
        before = shown(house)
        for look, error in (
                (lambda held: (finish(held), held.wish("x")), BadProgram),
                (lambda held: (finish(held), held.world[9]), ValueError),
                (lambda held: (finish(held), 1 // 0), ZeroDivisionError)):
            with self.assertRaises(error):
                tried(house, look)
            self.assertEqual(shown(house), before)
        with self.assertRaises(KeyError):
            with Trial(house) as held:
                finish(held)
                {}["x"]
        self.assertEqual(shown(house), before)

    def test_a_trial_in_a_trial(self):
        house = a_house(*net("z"))
        with Trial(house) as held:
            finish(held)
            with Trial(held) as further:
                further.wish("")
                finish(further)
                self.assertEqual(len(further.world), 0)
            self.assertEqual(len(held.world), 1)
        self.assertEqual(len(house.world), 0)


def rock_fields(house):
    house.wish(lines(*rock("r")))
    made = house.plan()["rock.r"]
    house.undo()
    return made


if __name__ == "__main__":
    unittest.main()
