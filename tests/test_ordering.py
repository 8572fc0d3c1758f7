"""The order of the steps of a stage, and its rings (point 12)."""

import unittest

from laterknown.errors import Ring
from laterknown.stages import plan
from staged import block, planned, staged_program, staged_state, thing

NET = block("net", "z")
GUARDED = {"rock.r": thing(1, f=0)}


class AnswersTest(unittest.TestCase):
    """Rule (1)."""

    def test_fresh_answers(self):
        for value in ("net.z.id", "[1, [net.z.id]]", 'if net.z.zone == "eu" then [net.z.id] else []'):
            self.assertEqual(planned((*NET, *block("box", "b", h=value)), {})[0], ["make net.z", "make box.b"], value)
        self.assertEqual(planned((*NET, *block("box", "b", h="net.z.f")), {})[0], ["make box.b", "make net.z"])
        self.assertEqual(planned((*NET, *block("box", "b", h="len([net.z.id])")), {})[0], ["make box.b", "make net.z"])

    def test_free_answers(self):
        for value in ("net.z.zone", '[net.z.zone == "eu"]'):
            self.assertEqual(planned((*NET, *block("box", "b", h=value)), {})[0], ["make net.z", "make box.b"], value)
        for value in ("len([net.z.zone])", 'if net.z.zone == "eu" then 1 else 1', "net.z.zone == net.z.zone"):
            self.assertEqual(planned((*NET, *block("box", "b", h=value)), {})[0], ["make box.b", "make net.z"], value)

    def test_one_of_two_answers(self):
        rows = (*NET, *block("net", "y"), *block("box", "b", h='if net.y.zone == "eu" then net.z.zone else 1'))
        self.assertEqual(planned(rows, {})[0], ["make net.y", "make net.z", "make box.b"])
        rows = (*NET, *block("net", "c"), *block("box", "b", h='if net.c.zone == "eu" then net.z.f else 2'))
        self.assertEqual(planned(rows, {})[0], ["make net.c", "make box.b", "make net.z"])

    def test_changes(self):
        for value, steps in (("net.z.id", ["make net.z", "change box.b"]),
            ("net.z.zone", ["make net.z", "change box.b"]),
                             ("net.z.f", ["change box.b", "make net.z"])):
            self.assertEqual(planned((*NET, *block("box", "b", h=value)), {"box.b": thing(5)})[0], steps)

    def test_instances_of_one_block_in_a_row(self):
        rows = (*block("net", "a"), *block("net", "b", h="net.a.id"), *block("box", "a", h="net.b.id"))
        self.assertEqual(planned(rows, {})[0], ["make net.a", "make net.b", "make box.a"])


class EndingTest(unittest.TestCase):
    """Rules (2) and (3)."""

    def test_holders_first(self):
        entries = {"net.a": thing(1), "net.b": thing(2, h="#1.id"), "net.c": thing(3, h="#2.id")}
        self.assertEqual(planned((), entries)[0], ["delete net.c", "delete net.b", "delete net.a"])
        entries = {"box.a": thing(1), "box.b": thing(2, u=1, h="#1.id"), "box.c": thing(3, u=2, h="#2.id")}
        self.assertEqual(planned((), entries)[0], ["delete box.a", "delete box.b", "delete box.c"])

    def test_each_holder(self):
        entries = {"net.a": thing(1), "net.y": thing(2, h="#1.id"), "net.z": thing(3, h=("#1.id",)),
            "rock.r": thing(4, u="#1.id")}
        rows = (*block("net", "y"), *block("rock", "r", u="net.n.id"), *block("net", "n"))
        self.assertEqual(planned(rows, entries)[0], [
            "change net.y", "delete net.z", "make net.n", "change rock.r", "delete net.a"])

    def test_drops(self):
        left = (("net.x", thing(7)), ("net.x", thing(8, h="#7.id")), ("net.x", thing(9, h="#8.id")))
        self.assertEqual(planned((), {"net.a": thing(2, h="#9.id")}, left)[0],
            ["delete net.a", "drop 9", "drop 8", "drop 7"])

    def test_behind_and_ahead(self):
        self.assertEqual(planned(block("pad", "p"), {"pad.p": thing(1, f=0)})[0], ["delete pad.p", "make pad.p"])
        self.assertEqual(planned(NET, {"net.z": thing(1, f=0)})[0], ["make net.z", "drop 1"])
        rows = (*block("box", "a", u="1", h="net.z.id"), *NET)
        entries = {"box.a": thing(1, f=0, h="#2.id"), "net.z": thing(2, f=0)}
        self.assertEqual(planned(rows, entries)[0], ["make net.z", "make box.a", "drop 1", "drop 2"])


    def test_a_delete_that_comes_late(self):
        rows = (*block("pad", "p"), *block("box", "h", h="rock.s.id"), *block("rock", "s"))
        entries = {"pad.p": thing(1, f=0), "box.h": thing(2, h="#1.id")}
        self.assertEqual(planned(rows, entries)[0], ["make rock.s", "change box.h", "delete pad.p", "make pad.p"])
        entries["box.h"] = thing(2)
        self.assertEqual(planned(rows, entries)[0], ["delete pad.p", "make pad.p", "make rock.s", "change box.h"])


class UniqueTest(unittest.TestCase):
    """Rule (4)."""

    def test_a_row_of_changes(self):
        rows = (*block("box", "a", u="2"), *block("box", "b", u="3"), *block("box", "c", u="4"))
        entries = {"box.a": thing(1, u=1), "box.b": thing(2, u=2), "box.c": thing(3, u=3)}
        self.assertEqual(planned(rows, entries)[0], ["change box.c", "change box.b", "change box.a"])
        rows = tuple([row.replace("box", "net") for row in rows])
        entries = {address.replace("box", "net"): parts for address, parts in entries.items()}
        self.assertEqual(planned(rows, entries)[0], ["change net.a", "change net.b", "change net.c"])

    def test_other_values(self):
        rows = (*block("box", "a", u="2"), *block("box", "b", u="3"))
        self.assertEqual(planned(rows, {"box.a": thing(1, u=1), "box.b": thing(2, u="2")})[0],
            ["change box.a", "change box.b"])
        self.assertEqual(planned(rows, {"box.a": thing(1, u=1), "box.b": thing(2, u=2)})[0],
            ["change box.b", "change box.a"])

    def test_alike_under_some_row(self):
        rows = (*NET, *block("box", "a", u="net.z.zone"), *block("box", "b", u="[1]"))
        entries = {"box.b": thing(1, u="eu")}
        self.assertEqual(planned(rows, entries)[0], ["change box.b", "make net.z", "make box.a"])
        rows = (*NET, *block("net", "zz"), *block("box", "a", u="net.z.zone"),
            *block("box", "b", u="[1]", h="net.zz.id"))
        self.assertEqual(planned(rows, entries)[0], ["make net.z", "make net.zz", "change box.b", "make box.a"])
        entries = {"box.b": thing(1, u=5)}
        self.assertEqual(planned(rows, entries)[0], ["make net.z", "make box.a", "make net.zz", "change box.b"])

    def test_a_unique_field_that_is_not_changed(self):
        rows = (*block("box", "a", u="5", h="1"), *block("box", "b", u="7", h="net.z.id"), *NET)
        entries = {"box.a": thing(1, u=5), "box.b": thing(2, u=5)}
        self.assertEqual(planned(rows, entries)[0], ["change box.a", "make net.z", "change box.b"])
        entries = {"box.a": thing(1, u=6), "box.b": thing(2, u=5)}
        self.assertEqual(planned(rows, entries)[0], ["make net.z", "change box.b", "change box.a"])

    def test_left_things(self):
        rows = (*block("hub", "a", u="5"), *NET, *block("box", "h", h="net.z.id"))
        left = (("hub.o", thing(9, u=5)),)
        self.assertEqual(planned(rows, {"box.h": thing(1, h="#9.id")}, left)[0], [
            "make net.z", "change box.h", "drop 9", "make hub.a"])
        self.assertEqual(planned(rows, {"box.h": thing(1)}, left)[0],
            ["drop 9", "make hub.a", "make net.z", "change box.h"])


class HoldingTest(unittest.TestCase):
    """Rule (5)."""

    def test_one_holds_the_other(self):
        rows = (*block("net", "p", h="net.q.id"), *block("net", "q", h="1"))
        self.assertEqual(planned(rows, {"net.p": thing(1), "net.q": thing(2, h="#1.id")})[0],
            ["change net.q", "change net.p"])
        self.assertEqual(planned(rows, {"net.p": thing(1), "net.q": thing(2, h="#3.id")})[0],
            ["change net.p", "change net.q"])
        # It held the other one before.
        entries = {"net.p": thing(1, u=9, h="#2.id"), "net.q": thing(2, h="#1.id")}
        self.assertEqual(planned(rows, entries)[0], ["change net.p", "change net.q"])

    def test_kinds_that_are_not_held(self):
        rows = (*block("rock", "p", h="rock.q.id"), *block("rock", "q", h="1"))
        self.assertEqual(planned(rows, {"rock.p": thing(1), "rock.q": thing(2, h="#1.id")})[0],
            ["change rock.q", "change rock.p"])

    def test_over_others(self):
        rows = (*block("net", "p", h="net.q.id"), *block("net", "q", u="net.r.id"), *block("net", "r"))
        entries = {"net.p": thing(1), "net.q": thing(2, u="#3.id"), "net.r": thing(3, h="#1.id")}
        self.assertEqual(planned(rows, entries)[0], ["change net.r", "change net.p"])
        rows = (*block("net", "p", h="net.q.id"), *block("net", "q", u="1"), *block("net", "r"))
        entries = {"net.p": thing(1), "net.q": thing(2, u="#3.id"), "net.r": thing(3, h="#1.id")}
        self.assertEqual(planned(rows, entries)[0], ["change net.q", "change net.r", "change net.p"])
        entries = {"net.p": thing(1), "net.q": thing(2, u="#4.id"), "net.r": thing(3, h="#1.id")}
        self.assertEqual(planned(rows, entries)[0], ["change net.p", "change net.q", "change net.r"])

    def test_over_things_that_hold_one_another(self):
        rows = (*block("rock", "p", h="rock.q.id"), *block("rock", "q"), *block("rock", "r"))
        entries = {"rock.p": thing(1), "rock.q": thing(2, h="#3.id"), "rock.r": thing(3, h="#2.id")}
        self.assertEqual(planned(rows, entries)[0], ["change rock.p", "change rock.q", "change rock.r"])
        entries["rock.r"] = thing(3, h=("#2.id", "#1.id"))
        self.assertEqual(planned(rows, entries)[0], ["change rock.q", "change rock.r", "change rock.p"])

    def test_over_left_things_and_deletes(self):
        rows = (*block("net", "p", h="net.q.id"), *block("net", "q"))
        entries = {"net.p": thing(1), "net.q": thing(2, h="#9.id")}
        self.assertEqual(planned(rows, entries, (("net.x", thing(9, h="#1.id")),))[0], [
            "change net.q", "drop 9", "change net.p"])
        self.assertEqual(planned(rows, entries, (("net.x", thing(9)),))[0], ["change net.p", "change net.q", "drop 9"])
        entries["net.x"] = thing(9, h="#1.id")
        self.assertEqual(planned(rows, entries)[0], ["change net.q", "delete net.x", "change net.p"])

    def test_over_things_that_the_stage_makes(self):
        rows = (*block("net", "p", h="net.n.id"), *block("net", "n", h="net.q.id"), *block("net", "q", h="net.zz.id"),
                *block("net", "zz"))
        entries = {"net.p": thing(1), "net.q": thing(2, h="#1.id")}
        self.assertEqual(planned(rows, entries)[0], ["make net.n", "make net.zz", "change net.q", "change net.p"])
        entries = {"net.p": thing(1), "net.q": thing(2)}
        self.assertEqual(planned(rows, entries)[0], ["make net.n", "change net.p", "make net.zz", "change net.q"])

    def test_over_two_things_that_the_stage_makes(self):
        rows = (*block("net", "p", h="net.n.id"), *block("net", "n", h="net.m.id"), *block("net", "m", h="net.q.id"),
                *block("net", "q", h="net.zz.id"), *block("net", "zz"))
        entries = {"net.p": thing(1), "net.q": thing(2, h="#1.id")}
        self.assertEqual(planned(rows, entries)[0], [
            "make net.m", "make net.n", "make net.zz", "change net.q", "change net.p"])

    def test_a_change_that_keeps_holding(self):
        # r holds p before and after, so it does not let p go.
        rows = (*block("net", "p", h="net.q.id"), *block("net", "q"), *block("net", "r", u="1", h="net.p.id"))
        for number in (1, 5):
            entries = {"net.p": thing(number), "net.q": thing(2, h="#3.id"), "net.r": thing(3, h=f"#{number}.id")}
            self.assertEqual(planned(rows, entries)[0], ["change net.p", "change net.q", "change net.r"])
            entries["net.r"] = thing(3, u=f"#{number}.id", h=f"#{number}.id")
            self.assertEqual(planned(rows, entries)[0], ["change net.p", "change net.q", "change net.r"])
        rows = (*rows[:8], *block("net", "r", u="1"))
        self.assertEqual(planned(rows, entries)[0], ["change net.q", "change net.r", "change net.p"])


class RingsTest(unittest.TestCase):
    SWAP = (*block("box", "a", u="2"), *block("box", "b", u="1"))
    ENTRIES = {"box.a": thing(1, u=1), "box.b": thing(2, u=2)}

    def test_a_swap_of_unique_values(self):
        self.assertEqual(planned(self.SWAP, self.ENTRIES), ("Ring", [("change", "box.a"), ("change", "box.b")]))
        self.assertEqual(planned((*self.SWAP, *NET), self.ENTRIES), (["make net.z"], ["box.a", "box.b"]))

    def test_each_step_comes_behind_the_one_before_it(self):
        rows = (*block("box", "a", u="2"), *block("box", "b", u="3"), *block("box", "c", u="1"))
        entries = {"box.a": thing(1, u=1), "box.b": thing(2, u=2), "box.c": thing(3, u=3)}
        with self.assertRaises(Ring) as caught:
            plan(staged_program(*rows), staged_state(entries))
        ring = caught.exception.value
        names = "".join([step[1][-1] for step in ring])
        self.assertEqual({step[0] for step in ring}, {"change"})
        # a takes the value of b, so a comes behind b.
        self.assertIn(names, ("cba", "bac", "acb"))

    def test_a_ring_beside_what_hangs_on_it(self):
        rows = (*self.SWAP, *block("box", "c", u="5", h="box.a.u"), *block("box", "d", u="6", h="box.a.id"))
        self.assertEqual(planned(rows, self.ENTRIES), (["make box.c", "make box.d"], ["box.a", "box.b"]))

    def test_what_leaves_behind_a_ring(self):
        # The net was held by a box that is on the ring, and is deleted later.
        entries = {**self.ENTRIES, "box.a": thing(1, u=1, h="#3.id"), "net.x": thing(3), "net.y": thing(4)}
        self.assertEqual(planned(self.SWAP, entries), (["delete net.y"], ["box.a", "box.b", "net.x"]))
        del entries["net.y"]
        self.assertEqual(planned(self.SWAP, entries), ("Ring", [("change", "box.a"), ("change", "box.b")]))

    def test_left_things_that_hold_one_another(self):
        left = (("net.x", thing(7, h="#8.id")), ("net.x", thing(8, h="#7.id")), ("net.x", thing(9, h="#8.id")))
        self.assertEqual(planned((), {}, left), (["drop 9"], ["left 7", "left 8"]))
        self.assertEqual(planned((), {}, left[:2]), ("Ring", [("drop", 7), ("drop", 8)]))
        left = (*left, ("net.x", thing(6)), ("box.x", thing(5, h="#6.id")), ("net.x", thing(10, h="#11.id")),
            ("net.x", thing(11)))
        self.assertEqual(planned((), {}, left),
            (["drop 5", "drop 6", "drop 9", "drop 10", "drop 11"], ["left 7", "left 8"]))

    def test_entries_that_hold_one_another(self):
        entries = {"net.x": thing(7, h="#8.id"), "net.y": thing(8, h="#7.id")}
        self.assertEqual(planned((), entries), ("Ring", [("delete", "net.x"), ("delete", "net.y")]))
        self.assertEqual(planned(block("net", "x"), entries), (["change net.x", "delete net.y"], []))

    def test_only_the_drop_of_a_replaced_thing_is_on_a_ring(self):
        entries = {"net.x": thing(7, f=0, h="#8.id"), "net.y": thing(8, f=0, h="#7.id")}
        rows = (*block("net", "x"), *block("net", "y"))
        self.assertEqual(planned(rows, entries), (["make net.x", "make net.y"], []))

    def test_a_ring_by_answers_and_values(self):
        # a wants what b gives up, and b is changed to the new answer of a.
        rows = (*block("pad", "a", u="1"), *block("box", "b", u="5", h="box.c.id"), *block("box", "c", u="7"))
        entries = {"box.b": thing(1, u=7)}
        self.assertEqual(planned(rows, entries), (["make pad.a"], ["box.b", "box.c"]))
        self.assertEqual(planned(rows, {"box.b": thing(1, u=8)}), (["make box.c", "change box.b", "make pad.a"], []))

    def test_two_rings(self):
        more = (*block("box", "c", u="4"), *block("box", "d", u="3"))
        entries = {**self.ENTRIES, "box.c": thing(3, u=3), "box.d": thing(4, u=4)}
        found = planned((*self.SWAP, *more), entries)
        self.assertIn(found, (("Ring", [("change", "box.a"), ("change", "box.b")]),
                              ("Ring", [("change", "box.c"), ("change", "box.d")])))
        self.assertEqual(planned((*self.SWAP, *more, *NET), entries),
            (["make net.z"], ["box.a", "box.b", "box.c", "box.d"]))

    def test_a_fault_comes_ahead_of_a_ring(self):
        rows = (*self.SWAP, *block("net", "z", h='1 + "a"'))
        self.assertEqual(planned(rows, self.ENTRIES), ("Faulty", "net.z", "evaluate"))


if __name__ == "__main__":
    unittest.main()
