"""Settling, claims, late answers, left things that are taken back (section 18); read and take (section 19)."""

import unittest

from laterknown.errors import NoCandidate, NoLeft, NoRow, NoThing, Recorded, Taken, Unsettled, Unsure
from laterknown.kinds import read_kinds
from laterknown.house import House
from laterknown.states import Row
from laterknown.texts import show_state
from laterknown.values import Record
from laterknown.worlds import World
from housed import a_house, box, finish, net, pad, ran, recorded, rock, settled_house, shown
from samples import ANY_VALUES, lines

NET = Record(range=1, size=1)
ROCK = Record(size=1, net=2)
BOX = Record(size=1, net=2, label="a")


class Settling(unittest.TestCase):
    def refused(self, house, error, call, *arguments):
        """The value of an error; the call changes nothing."""
        before = shown(house)
        with self.assertRaises(error) as caught:
            call(*arguments)
        self.assertEqual(shown(house), before)
        return caught.exception.value

    def check(self, house, addresses, left=(), rows=()):
        """The numbers at the addresses, the left things, and the rows under way."""
        state = house.state
        self.assertEqual({address: state[address].number for address in state.addresses}, addresses)
        self.assertEqual([(place, entry.number) for place, entry in state.left], list(left))
        self.assertEqual([row.number for row in state.under_way], list(rows))


class DocumentTest(Settling):
    def test_example(self):
        house = House(World(read_kinds("kind net\n  fixed range")))
        house.wish("resource net z\n  range 9")
        self.assertEqual(
            [list(house.run(house.plan(), ("lost",))), house.candidates_of(1), house.claim("net.z", 1),
             house.state["net.z"].number, len(house.plan())],
            [[(("make", "net.z"), "open")], (1,), None, 1, 0])


class SettleTest(Settling):
    def run_and_settle(self, house, *troubles):
        ran(house, *troubles)
        self.assertIsNone(house.settle())

    def test_makes_without_candidates(self):
        for trouble in ("void", "halt"):
            house = a_house(*net("z"))
            self.run_and_settle(house, trouble)
            self.check(house, {})

    def test_makes_with_candidates(self):
        for trouble in ("lost", "crash"):
            house = a_house(*net("z"))
            self.run_and_settle(house, trouble)
            self.check(house, {}, (), (1,))
            self.assertEqual(house.state.under_way, (Row(1, ("make", "net.z"), "make", NET, 0, 1),))

    def test_until_is_set(self):
        house = a_house(*net("z"), *net("y", "5"))
        ran(house, "ok", "crash")
        house.world.put("net", NET)
        house.settle()
        self.assertEqual(house.state.under_way[0].until, 3)
        self.assertEqual(house.candidates_of(2), (2, 3))
        # What comes behind that is no candidate.
        house.world.put("net", NET)
        house.settle()
        self.assertEqual(house.candidates_of(2), (2, 3))

    def test_tokens(self):
        for trouble, number in (("lost", 1), ("crash", 1), ("void", None), ("halt", None)):
            house = a_house(*box("c"))
            ran(house, trouble)
            house.world.put("box", Record(size=1, net=2, label="other"))
            if number:
                house.world.alter(1, "size", 77)
            house.settle()
            self.check(house, {"box.c": 1} if number else {})
            if number:
                # It is recorded as it is listed.
                self.assertEqual(house.state["box.c"], house.world[1])
                self.assertEqual(house.state["box.c"].fields["size"], 77)

    def test_a_token_of_what_is_gone(self):
        house = a_house(*box("c"))
        ran(house, "lost")
        house.world.remove(1)
        house.settle()
        self.check(house, {})

    def test_a_token_of_what_is_recorded(self):
        house = a_house(*box("c"))
        ran(house, "lost")
        house.take("box.d", 1)
        house.settle()
        self.check(house, {"box.d": 1})

    def test_a_make_in_place_of_an_elder_thing(self):
        house = settled_house(*box("c"))
        house.wish(lines(*box("c", net="3", label='"b"')))
        self.run_and_settle(house, "crash")
        self.check(house, {"box.c": 2}, [("box.c", 1)])

    def test_changes(self):
        for trouble, size in (("lost", 5), ("void", 1), ("crash", 5), ("halt", 1)):
            house = settled_house(*net("z"))
            house.wish(lines(*net("z", size="5")))
            self.run_and_settle(house, trouble)
            self.check(house, {"net.z": 1})
            self.assertEqual(house.state["net.z"].fields["size"], size)

    def test_changes_by_what_is_listed(self):
        for size, found in ((5, 5), (7, 1), (True, 1)):
            house = settled_house(*net("z"))
            house.wish(lines(*net("z", size="5")))
            ran(house, "void")
            house.world.alter(1, "size", size)
            house.settle()
            self.check(house, {"net.z": 1})
            self.assertEqual(house.state["net.z"].fields["size"], found)

    def test_a_change_of_what_is_gone(self):
        house = settled_house(*net("z"))
        house.wish(lines(*net("z", size="5")))
        ran(house, "lost")
        house.world.remove(1)
        house.settle()
        self.check(house, {})

    def test_deletes(self):
        for trouble, there in (("lost", {}), ("void", {"net.z": 1}), ("crash", {}), ("halt", {"net.z": 1})):
            house = settled_house(*net("z"))
            house.wish("")
            self.run_and_settle(house, trouble)
            self.check(house, there)

    def test_drops(self):
        for trouble, left in (("lost", ()), ("void", [("net.z", 1)]), ("crash", ()), ("halt", [("net.z", 1)])):
            house = settled_house(*net("z"))
            house.wish(lines(*net("z", "2")))
            self.run_and_settle(house, "ok", trouble)
            self.check(house, {"net.z": 2}, left)

    def test_rows_of_what_is_recorded_no_more(self):
        for step, action, fields in (("change net.z", "change", "{range: 1, size: 5}"), ("delete net.z", "delete", "-"),
                                     ("drop 7", "drop", "-")):
            house = a_house(*net("z"))
            recorded(house, f"row 3 {step} {action} {fields} 0 -")
            house.settle()
            self.check(house, {})

    def test_left_things_of_other_numbers(self):
        house = a_house(*net("z"))
        house.world.put("net", NET)
        house.world.put("net", NET)
        recorded(house, 'left net.z 2 {range: 1, size: 1} {id: #2.id, zone: ""}',
                 'left net.z 9 {range: 1, size: 1} {id: #9.id, zone: ""}', "row 4 drop 2 drop - 0 -", "row 5 drop 9 drop - 0 -")
        house.settle()
        self.check(house, {}, [("net.z", 2)])

    def test_rows_are_closed_by_their_numbers(self):
        # The second make has a candidate only until the first one is closed by its token.
        house = a_house(*box("a", label="1"), *box("b", label="2"), *net("z"), *net("y"))
        ran(house, "lost", "lost", "lost", "lost")
        house.settle()
        self.check(house, {"box.a": 1, "box.b": 2}, (), (3, 4))
        self.assertEqual([house.candidates_of(row) for row in (3, 4)], [(3,), (4,)])

    def test_without_rows(self):
        house = settled_house(*net("z"))
        before = shown(house)
        house.settle()
        self.assertEqual(shown(house), before)


class CandidatesTest(Settling):
    def test_since_until_and_fields(self):
        house = settled_house(*rock("x"))
        world = house.world
        house.wish(lines(*rock("x"), *rock("r")))
        world.put("rock", ROCK)
        ran(house, "lost")
        world.put("rock", ROCK)
        self.assertEqual(house.candidates_of(2), (3,))
        world.alter(3, "size", True)
        self.assertEqual(house.candidates_of(2), ())
        world.alter(3, "size", 1)
        self.assertEqual(house.candidates_of(2), (3,))
        world.remove(3)
        self.assertEqual(house.candidates_of(2), ())

    def test_until_none(self):
        house = a_house(*rock("r"))
        ran(house, "crash")
        house.world.put("rock", ROCK)
        house.world.put("net", NET)
        house.world.put("rock", Record(size=1, net=3))
        self.assertEqual(house.candidates_of(1), (1, 2))

    def test_recorded_things(self):
        house = a_house(*rock("r"))
        ran(house, "crash")
        for _ in range(3):
            house.world.put("rock", ROCK)
        house.take("rock.a", 2)
        self.assertEqual(house.candidates_of(row=1), (1, 3, 4))
        house.take("rock.b", 3)
        house.move((("rock.b", "rock.c"),))
        recorded(house, *show_state(house.state).replace("rock.c 3", "rock.c 99").replace("#3", "#99").split("\n")[:2],
                 "left rock.q 3 {net: 2, size: 1} {id: #3.id}", show_state(house.state).split("\n")[-1])
        self.assertEqual(house.candidates_of(1), (1, 4))

    def test_two_rows_of_a_kind(self):
        house = a_house(*rock("a"), *rock("b"), *rock("c"))
        ran(house, "lost", "void", "crash")
        self.assertEqual([house.candidates_of(row) for row in (1, 2, 3)], [(1,), (), (2,)])
        house.settle()
        self.assertEqual([row.number for row in house.state.under_way], [1, 3])

    def test_other_rows(self):
        house = settled_house(*net("z"), *net("y"), *net("x"), *box("c"))
        house.wish(lines(*net("z", size="2"), *net("y", "2"), *box("c"), *box("d", label="5")))
        self.assertEqual(ran(house, "void", "void", "lost", "lost"), [
            "change net.z open", "delete net.x open", "make box.d open", "make net.y open", "drop 3 skipped"])
        self.assertEqual([house.candidates_of(row) for row in (5, 6, 7, 8)], [(), (), (), (6,)])
        recorded(house, "row 9 drop 2 drop - 0 -")
        self.assertEqual(house.candidates_of(9), ())

    def test_rows_that_there_are_not(self):
        house = a_house(*net("z"))
        ran(house, "lost")
        for value in (*ANY_VALUES, 2, 0, -1):
            if value != 1 or isinstance(value, bool):
                self.assertIs(self.refused(house, NoRow, house.candidates_of, value), value)
        house.disown("net.z")
        self.assertEqual(self.refused(house, NoRow, house.candidates_of, 1), 1)


class ClaimTest(Settling):
    def lost(self):
        house = a_house(*rock("r"))
        ran(house, "crash")
        house.world.put("rock", ROCK)
        return house

    def test_claim(self):
        for number in (1, 2):
            house = self.lost()
            with self.assertRaises(Unsure) as caught:
                house.plan()
            self.assertEqual((caught.exception.value, caught.exception.found), ("rock.r", (1, 2)))
            self.assertIsNone(house.claim(address="rock.r", number=number))
            self.check(house, {"rock.r": number})
            self.assertEqual(len(house.plan()), 0)

    def test_an_elder_entry(self):
        house = settled_house(*rock("r"))
        house.wish(lines(*rock("r", net="3")))
        ran(house, "lost")
        house.claim("rock.r", 2)
        self.check(house, {"rock.r": 2}, [("rock.r", 1)])

    def test_disown(self):
        house = self.lost()
        self.assertIsNone(house.disown(address="rock.r"))
        self.check(house, {})
        self.assertEqual(house.plan().steps, (("make", "rock.r"),))

    def test_no_candidate(self):
        house = self.lost()
        house.world.put("net", NET)
        for value in (*ANY_VALUES, 3, 4, 0, -1):
            if value != 1 or isinstance(value, bool):
                self.assertIs(self.refused(house, NoCandidate, house.claim, "rock.r", value), value)

    def test_no_row(self):
        house = self.lost()
        for value in ANY_VALUES:
            for number in (1, "x", None):
                self.assertIs(self.refused(house, NoRow, house.claim, value, number), value)
            self.assertIs(self.refused(house, NoRow, house.disown, value), value)
        house.claim("rock.r", 1)
        self.assertEqual(self.refused(house, NoRow, house.claim, "rock.r", 2), "rock.r")
        self.assertEqual(self.refused(house, NoRow, house.disown, "rock.r"), "rock.r")

    def test_drops_have_no_address(self):
        house = settled_house(*net("z"))
        house.wish(lines(*net("z", "2")))
        ran(house, "ok", "void")
        for value in ("net.z", "1", 1, "drop"):
            self.assertEqual(self.refused(house, NoRow, house.disown, value), value)

    def test_other_rows(self):
        house = settled_house(*net("z"))
        house.wish(lines(*net("z", size="2")))
        ran(house, "lost")
        self.assertEqual(self.refused(house, NoCandidate, house.claim, "net.z", 1), 1)
        house.disown("net.z")
        self.check(house, {"net.z": 1})
        self.assertEqual(house.state["net.z"].fields["size"], 1)

    def test_the_least_row(self):
        house = a_house(*rock("r"))
        house.world.put("rock", ROCK)
        house.world.put("rock", ROCK)
        recorded(house, "row 3 make rock.r make {net: 2, size: 1} 0 1", "row 4 make rock.r make {net: 2, size: 1} 1 2")
        self.assertEqual(self.refused(house, NoCandidate, house.claim, "rock.r", 2), 2)
        house.claim("rock.r", 1)
        self.check(house, {"rock.r": 1}, (), (4,))
        house.claim("rock.r", 2)
        self.check(house, {"rock.r": 2}, [("rock.r", 1)])

    def test_a_kind_with_tokens(self):
        house = a_house(*box("c"))
        ran(house, "lost")
        self.assertEqual(house.candidates_of(1), ())
        self.assertEqual(self.refused(house, NoCandidate, house.claim, "box.c", 1), 1)
        self.assertEqual(self.refused(house, Unsettled, house.plan), 1)
        house.disown("box.c")
        self.check(house, {})


class LateTest(Settling):
    def test_makes(self):
        for trouble in ("lost", "crash"):
            house = a_house(*rock("r"))
            ran(house, trouble)
            house.world.alter(1, "size", 5)
            self.assertIsNone(house.late(1, 1))
            self.check(house, {"rock.r": 1})
            self.assertEqual(house.state["rock.r"].fields["size"], 5)
        house = a_house(*rock("r"))
        ran(house, "void")
        house.late(row=1, told=False)
        self.check(house, {})

    def test_a_thing_that_is_gone(self):
        house = a_house(*rock("r"))
        ran(house, "lost")
        house.world.remove(1)
        house.late(1, 1)
        self.check(house, {})

    def test_an_elder_entry(self):
        house = settled_house(*rock("r"))
        house.wish(lines(*rock("r", net="3")))
        ran(house, "lost")
        house.late(2, 2)
        self.check(house, {"rock.r": 2}, [("rock.r", 1)])

    def test_other_steps(self):
        for told in (True, False):
            house = settled_house(*net("z"), *net("y"))
            house.wish(lines(*net("z", size="5")))
            ran(house, "void", "void")
            house.late(3, told)
            house.late(4, told)
            self.check(house, {"net.z": 2} if told else {"net.y": 1, "net.z": 2})
            self.assertEqual(house.state["net.z"].fields["size"], 5 if told else 1)
            house = settled_house(*net("z"))
            house.wish(lines(*net("z", "2")))
            ran(house, "ok", "void")
            house.late(3, told)
            self.check(house, {"net.z": 2}, () if told else [("net.z", 1)])

    def test_what_is_recorded_no_more(self):
        house = a_house(*net("z"), *net("y"), *net("x"))
        ran(house, "fail", "fail", "fail")
        recorded(house, "row 1 change net.z change {range: 1, size: 5} 0 -", "row 2 delete net.y delete - 0 -",
                 "row 3 drop 9 drop - 0 -")
        for row in (1, 2, 3):
            house.late(row, True)
        self.check(house, {})

    def test_closed_rows(self):
        house = a_house(*rock("r"), *rock("s"))
        ran(house, "ok", "fail")
        before = shown(house)
        for row, told in ((1, 1), (1, False), (2, 1), (2, True), (1, 99)):
            self.assertIsNone(house.late(row, told))
            self.assertEqual(shown(house), before)

    def test_rows_that_never_were(self):
        house = a_house(*rock("r"))
        ran(house, "void")
        for value in (*ANY_VALUES, 2, 0, -1):
            if value != 1 or isinstance(value, bool):
                self.assertIs(self.refused(house, NoRow, house.late, value, False), value)
        house.settle()
        self.assertIsNone(house.late(1, False))


class TakebackTest(Settling):
    def test_an_elder_entry(self):
        house = settled_house(*net("z"))
        house.wish(lines(*net("z", "2")))
        ran(house, "ok", "fail")
        self.check(house, {"net.z": 2}, [("net.z", 1)])
        self.assertIsNone(house.takeback(address="net.z", number=1))
        self.check(house, {"net.z": 1}, [("net.z", 2)])
        house.takeback("net.z", 2)
        self.check(house, {"net.z": 2}, [("net.z", 1)])
        self.assertEqual(finish(house), ["drop 1 done"])

    def test_without_an_entry(self):
        house = a_house(*net("z"))
        recorded(house, 'left net.z 1 {range: 1, size: 1} {id: #1.id, zone: ""}')
        house.takeback("net.z", 1)
        self.check(house, {"net.z": 1})

    def test_no_left_thing(self):
        house = a_house(*net("z"))
        recorded(house, 'net.y 2 {range: 1, size: 1} {id: #2.id, zone: ""}',
                 'left net.z 1 {range: 1, size: 1} {id: #1.id, zone: ""}', "row 7 change net.y change {range: 1, size: 2} 0 -")
        for value in (*ANY_VALUES, 2, 3):
            for address in (*ANY_VALUES, "net.z", "net.y"):
                if address != "net.z" or value != 1 or isinstance(value, bool):
                    self.assertIs(self.refused(house, NoLeft, house.takeback, address, value), value)

    def test_rows_under_way(self):
        house = a_house(*net("z"))
        left = 'left net.z 1 {range: 1, size: 1} {id: #1.id, zone: ""}'
        recorded(house, left, "row 3 delete net.y delete - 0 -", "row 4 delete net.z delete - 0 -", "row 5 delete net.z delete - 0 -")
        self.assertEqual(self.refused(house, Unsettled, house.takeback, "net.z", 1), 4)
        self.assertEqual(self.refused(house, NoLeft, house.takeback, "net.z", 2), 2)
        recorded(house, left, "row 3 delete net.y delete - 0 -", "row 4 drop 1 drop - 0 -")
        house.takeback("net.z", 1)
        self.check(house, {"net.z": 1}, (), (3, 4))


class ReadTest(Settling):
    def test_changed_and_gone(self):
        house = settled_house(*net("a"), *net("b"), *net("c"))
        house.world.alter(1, "size", True)
        house.world.alter(1, "range", "x")
        house.world.remove(2)
        self.assertIsNone(house.read())
        self.check(house, {"net.a": 1, "net.c": 3})
        self.assertEqual(house.state["net.a"], house.world[1])
        self.assertIs(house.state["net.a"].fields["size"], True)
        self.assertEqual(house.plan().steps, (("make", "net.a"), ("drop", 1), ("make", "net.b")))

    def test_left_things(self):
        house = settled_house(*net("z"), *net("y"))
        house.wish(lines(*net("z", "2"), *net("y", "2")))
        ran(house, "ok", "fail", "ok", "fail")
        house.world.alter(1, "size", 9)
        house.world.remove(2)
        house.read()
        self.check(house, {"net.y": 3, "net.z": 4}, [("net.y", 1)])
        self.assertEqual(house.state.left[0][1].fields["size"], 9)

    def test_rows_stay(self):
        house = settled_house(*net("z"))
        house.wish(lines(*net("z", size="5"), *net("y")))
        ran(house, "lost", "lost")
        rows = house.state.under_way
        house.read()
        self.assertEqual(house.state.under_way, rows)
        self.assertEqual(house.state["net.z"].fields["size"], 5)

    def test_refresh(self):
        house = settled_house(*net("z"), *rock("r"))
        house.wish(lines(*net("z", size="5"), *rock("r")))
        ran(house, "crash")
        house.world.alter(2, "size", 7)
        self.assertIsNone(house.refresh())
        self.check(house, {"net.z": 1, "rock.r": 2})
        self.assertEqual([house.state[address].fields["size"] for address in ("net.z", "rock.r")], [5, 7])
        # What was requested is compared with what is listed before it is read.
        house = settled_house(*net("z"))
        house.wish("")
        ran(house, "lost")
        house.refresh()
        self.check(house, {})


class TakeTest(Settling):
    def test_take(self):
        house = a_house(*net("z"))
        house.world.put("net", NET)
        self.assertIsNone(house.take(address="net.z", number=1))
        self.assertEqual(house.state["net.z"], house.world[1])
        self.assertEqual(len(house.plan()), 0)
        house.world.put("net", NET)
        house.take("main/net.q[a]", 2)
        self.check(house, {"net.z": 1, "main/net.q[a]": 2})
        house.world.put("pad", Record(range=1))
        house.take("pad", 3)
        self.assertEqual(finish(house), ["delete main/net.q[a] done", "delete pad done"])

    def test_errors(self):
        house = settled_house(*net("z"), *pad("p"))
        house.world.put("net", NET)
        for value in (*ANY_VALUES, 4, 0, -1):
            if value != 1 or isinstance(value, bool):
                for address in (*ANY_VALUES, "net.z"):
                    self.assertIs(self.refused(house, NoThing, house.take, address, value), value)
        for address in ("net.z", "net.q", "rock.q", None):
            self.assertEqual(self.refused(house, Recorded, house.take, address, 1), 1)
        for address in ("net.z", "pad.p", "rock.q", "pad.q", "", "3", "net/rock.q", "network.z", None, 5, []):
            self.assertEqual(self.refused(house, Taken, house.take, address, 3), address)
        house.take("net/net", 3)
        self.assertEqual(self.refused(house, Recorded, house.take, "net.q", 3), 3)

    def test_left_things_are_recorded(self):
        house = settled_house(*net("z"))
        house.wish(lines(*net("z", "2")))
        ran(house, "ok", "fail")
        self.assertEqual(self.refused(house, Recorded, house.take, "net.q", 1), 1)
        house.world.put("net", NET)
        recorded(house, 'left net.q 9 {range: 1, size: 1} {id: #9.id, zone: ""}')
        house.take("net.q", 3)
        self.check(house, {"net.q": 3}, [("net.q", 9)])


if __name__ == "__main__":
    unittest.main()
