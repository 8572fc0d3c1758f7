"""Running plans (section 17)."""

import unittest

from laterknown.errors import Denied, Faulty, NoProgram, Ring, Stale, Unsettled, Unsure
from laterknown.states import Row
from laterknown.values import Record
from housed import a_house, box, finish, net, pad, ran, recorded, rock, settled_house, shown
from samples import lines

NET = Record(range=1, size=1)


class Running(unittest.TestCase):
    def rows(self, house):
        return [(row.number, row.step, row.action, row.since, row.until) for row in house.state.under_way]


class DocumentTest(Running):
    def test_example(self):
        from laterknown.house import House
        from laterknown.kinds import read_kinds
        from laterknown.worlds import World
        nets = "kind net\n  fixed range\n  fresh id\n  free zone\n  held\nkind box\n  set net"
        text = ('resource net z\n  range 9\n'
                'resource box c each if net.z.zone == "eu" then ["a"] else []\n  net net.z.id')
        house = House(World(read_kinds(nets), free=("eu",)))
        house.wish(text)
        found = [list(house.run(house.plan())), list(house.run(house.plan())), len(house.plan()),
                 house.state["box.c[a]"].fields["net"]]
        self.assertEqual(found, [[(("make", "net.z"), "done")], [(("make", "box.c[a]"), "done")], 0, "#1.id"])


class DoneTest(Running):
    def test_makes(self):
        house = a_house(*net("z"), *box("c", net="[net.z.id, net.z.zone]"))
        self.assertEqual(ran(house), ["make net.z done", "make box.c done"])
        self.assertEqual(house.state["net.z"], house.world[1])
        self.assertEqual(house.state["box.c"], house.world[2])
        self.assertEqual(house.state["box.c"].fields["net"], ("#1.id", "eu"))
        self.assertEqual((house.state.under_way, house.state.left), ((), ()))

    def test_changes(self):
        house = settled_house(*net("z"))
        house.wish(lines(*net("z", size="5")))
        self.assertEqual(ran(house), ["change net.z done"])
        self.assertEqual(house.state["net.z"], house.world[1])
        self.assertEqual(house.world[1].fields, Record(range=1, size=5))

    def test_deletes(self):
        house = settled_house(*net("z"), *rock("r", net="net.z.id"))
        house.wish("")
        self.assertEqual(ran(house), ["delete rock.r done", "delete net.z done"])
        self.assertEqual((len(house.state), len(house.world)), (0, 0))

    def test_ahead(self):
        house = settled_house(*net("z"), *box("c", size="[net.z.id]"))
        house.wish(lines(*net("z", "5"), *box("c", size="[net.z.id]")))
        self.assertEqual(ran(house), ["make net.z done", "change box.c done", "drop 1 done"])
        self.assertEqual((house.world.numbers, house.state["net.z"].number), ((2, 3), 3))
        self.assertEqual(house.state.left, ())

    def test_the_elder_entry_becomes_a_left_thing(self):
        house = settled_house(*net("z"))
        house.wish(lines(*net("z", "5")))
        self.assertEqual(ran(house, "ok", "fail"), ["make net.z done", "drop 1 failed"])
        self.assertEqual(house.state["net.z"].number, 2)
        self.assertEqual([(place, entry.number) for place, entry in house.state.left], [("net.z", 1)])
        self.assertEqual(finish(house), ["drop 1 done"])
        self.assertEqual((house.state.left, house.world.numbers), ((), (2,)))

    def test_behind(self):
        house = settled_house(*pad("p"))
        house.wish(lines(*pad("p", "2")))
        self.assertEqual(ran(house), ["delete pad.p done", "make pad.p done"])
        self.assertEqual((house.world.numbers, house.state["pad.p"].number), ((2,), 2))

    def test_nothing_to_do(self):
        house = settled_house(*net("z"))
        self.assertEqual(ran(house), [])
        self.assertEqual(list(house.run(plan=house.plan(), troubles=("halt",))), [])


class TroubleTest(Running):
    def test_words(self):
        for trouble, word, many, stays in (
                ("ok", "done", 1, False), ("fail", "failed", 0, False), ("lost", "open", 1, True), ("void", "open", 0, True),
                ("crash", "open", 1, True), ("halt", "open", 0, True)):
            house = a_house(*net("z"))
            self.assertEqual(ran(house, trouble), [f"make net.z {word}"], trouble)
            self.assertEqual(len(house.world), many, trouble)
            self.assertEqual(len(house.state), 1 if word == "done" else 0, trouble)
            until = None if trouble in ("crash", "halt") else many
            self.assertEqual(self.rows(house), [(1, ("make", "net.z"), "make", 0, until)] if stays else [], trouble)
            if stays:
                self.assertEqual(house.state.under_way[0], Row(1, ("make", "net.z"), "make", NET, 0, until))

    def test_changes(self):
        for trouble, word, size in (("ok", "done", 5), ("fail", "failed", 1), ("lost", "open", 5), ("void", "open", 1),
                                    ("crash", "open", 5), ("halt", "open", 1)):
            house = settled_house(*net("z"))
            house.wish(lines(*net("z", size="5")))
            self.assertEqual(ran(house, trouble), [f"change net.z {word}"], trouble)
            self.assertEqual(house.world[1].fields["size"], size, trouble)
            self.assertEqual(house.state["net.z"].fields["size"], 5 if word == "done" else 1, trouble)
            if word == "open":
                row = house.state.under_way[0]
                self.assertEqual((row.number, row.step, row.action, row.fields["size"], row.since),
                                 (2, ("change", "net.z"), "change", 5, 1))

    def test_deletes_and_drops(self):
        for trouble, word, many in (("ok", "done", 0), ("fail", "failed", 1), ("lost", "open", 0), ("void", "open", 1)):
            house = settled_house(*net("z"))
            house.wish("")
            self.assertEqual(ran(house, trouble), [f"delete net.z {word}"], trouble)
            self.assertEqual((len(house.world), len(house.state)), (many, 0 if word == "done" else 1), trouble)
            if word == "open":
                self.assertEqual(house.state.under_way[0], Row(2, ("delete", "net.z"), "delete", None, 1, many))
            house = settled_house(*net("z"))
            house.wish(lines(*net("z", "2")))
            self.assertEqual(ran(house, "ok", trouble), ["make net.z done", f"drop 1 {word}"], trouble)
            self.assertEqual((len(house.world), len(house.state.left)), (many + 1, 0 if word == "done" else 1), trouble)
            if word == "open":
                self.assertEqual(house.state.under_way[0], Row(3, ("drop", 1), "drop", None, 2, 2))

    def test_actions_of_rows(self):
        house = settled_house(*pad("p"))
        house.wish(lines(*pad("p", "2")))
        self.assertEqual(ran(house, "lost"), ["delete pad.p open", "make pad.p skipped"])
        self.assertEqual(self.rows(house), [(2, ("delete", "pad.p"), "behind", 1, 0)])
        house.settle()
        self.assertEqual(ran(house, "void"), ["make pad.p open"])
        self.assertEqual(self.rows(house), [(3, ("make", "pad.p"), "make", 0, 0)])
        house = settled_house(*pad("p"))
        house.wish(lines(*pad("p", "2")))
        self.assertEqual(ran(house, "ok", "crash"), ["delete pad.p done", "make pad.p open"])
        self.assertEqual(self.rows(house), [(3, ("make", "pad.p"), "behind", 0, None)])
        house = settled_house(*net("z"))
        house.wish(lines(*net("z", "2")))
        self.assertEqual(ran(house, "halt"), ["make net.z open"])
        self.assertEqual(self.rows(house), [(2, ("make", "net.z"), "ahead", 1, None)])

    def test_since_and_until(self):
        house = settled_house(*net("a"), *net("b"), *net("c"))
        house.world.remove(3)
        house.read()
        house.world.put("rock", Record(size=1, net=1))
        house.world.remove(4)
        house.wish(lines(*net("a"), *net("b"), *net("d"), *net("e")))
        self.assertEqual(ran(house, "lost", "void"), ["make net.d open", "make net.e open"])
        # Numbers are never given again, and last is the greatest one that there is now.
        self.assertEqual(self.rows(house), [(4, ("make", "net.d"), "make", 2, 5), (5, ("make", "net.e"), "make", 5, 5)])

    def test_one_word_for_each_request(self):
        house = a_house(*net("a"), *net("b"), *net("c"), *net("d"))
        self.assertEqual(ran(house, "ok", "fail", "ok", "ok", "crash", "ok"), [
            "make net.a done", "make net.b failed", "make net.c done", "make net.d done"])
        house = a_house(*net("a"), *rock("b", net="net.a.id"), *rock("c"), *rock("d"))
        # What is skipped sends no request.
        self.assertEqual(ran(house, "fail", "ok", "lost"), [
            "make net.a failed", "make rock.b skipped", "make rock.c done", "make rock.d open"])
        self.assertEqual(self.rows(house), [(3, ("make", "rock.d"), "make", 1, 2)])

    def test_the_run_stops(self):
        for trouble in ("crash", "halt"):
            house = a_house(*net("a"), *net("b"), *net("c"))
            self.assertEqual(ran(house, "ok", trouble, "ok"), ["make net.a done", "make net.b open"])
            self.assertEqual([row[0] for row in self.rows(house)], [2])

    def test_a_run_that_is_left(self):
        house = a_house(*net("a"), *net("b"), *net("c"))
        items = house.run(house.plan(), ("lost",))
        self.assertEqual(len(house.world), 0)
        self.assertEqual(next(items), (("make", "net.a"), "open"))
        items.close()
        self.assertEqual((len(house.world), len(house.state), self.rows(house)),
                         (1, 0, [(1, ("make", "net.a"), "make", 0, 1)]))
        house.claim("net.a", 1)
        items = house.run(house.plan())
        self.assertEqual(next(items), (("make", "net.b"), "done"))
        self.assertEqual(next(items), (("make", "net.c"), "done"))
        self.assertEqual(list(items), [])

    def test_numbers_of_rows(self):
        house = a_house(*net("a"), *net("b"))
        ran(house, "fail", "void")
        self.assertEqual(self.rows(house)[0][0], 2)
        house.settle()
        ran(house, "void")
        self.assertEqual(self.rows(house)[0][0], 3)

    def test_tokens(self):
        house = a_house(*box("a", label="1"), *box("b", label="2"))
        self.assertEqual(ran(house, "lost", "void"), ["make box.a open", "make box.b open"])
        # The number of the row is the token.
        self.assertEqual(house.world.make("box", Record(size=9, net=9, label=9), 1), 1)
        self.assertEqual(house.world.make("box", Record(size=9, net=9, label=9), 2), 2)
        house = a_house(*rock("a"))
        ran(house, "lost")
        self.assertEqual(house.world.make("rock", Record(size=9, net=9), 1), 2)


class SkippedTest(Running):
    def test_over_several_steps(self):
        rows = (*net("a"), *net("b", size="net.a.id"), *net("c", size="net.b.id"), *net("d", size="net.c.id"), *net("e"))
        for trouble, word in (("fail", "failed"), ("lost", "open"), ("void", "open")):
            house = a_house(*rows)
            self.assertEqual(ran(house, "ok", trouble), [
                "make net.a done", f"make net.b {word}", "make net.c skipped", "make net.d skipped", "make net.e done"])

    def test_drops_and_deletes(self):
        house = settled_house(*net("z"), *rock("r", size="net.z.id"))
        house.wish(lines(*net("z", "5"), *rock("r", size="net.z.id")))
        self.assertEqual(ran(house, "ok", "fail"), ["make net.z done", "change rock.r failed", "drop 1 skipped"])
        house = settled_house(*net("z"), *rock("r", size="net.z.id"))
        house.wish("")
        self.assertEqual(ran(house, "void"), ["delete rock.r open", "delete net.z skipped"])

    def test_unique_values(self):
        house = settled_house(*box("a", label="1"))
        house.wish(lines(*box("b", label="1")))
        self.assertEqual(ran(house, "fail"), ["delete box.a failed", "make box.b skipped"])
        house = settled_house(*box("a", label="1"), *box("b", label="2"))
        house.wish(lines(*box("a", label="2"), *box("b", label="3")))
        self.assertEqual(ran(house, "void"), ["change box.b open", "change box.a skipped"])


class RefusedTest(Running):
    def test_refused(self):
        house = a_house(*box("a", label="1"), *rock("r"), *rock("s", net="box.a.id"))
        house.world.put("box", Record(size=1, net=1, label=1))
        self.assertEqual(ran(house), ["make box.a refused", "make rock.r done", "make rock.s skipped"])
        self.assertEqual((house.state.addresses, house.state.under_way), (("rock.r",), ()))

    def test_a_refusal_that_is_not_told(self):
        house = a_house(*box("a", label="1"))
        house.world.put("box", Record(size=1, net=1, label=1))
        self.assertEqual(ran(house, "lost"), ["make box.a open"])
        self.assertEqual(self.rows(house), [(1, ("make", "box.a"), "make", 1, 1)])
        house.settle()
        self.assertEqual((house.state.under_way, len(house.state)), ((), 0))

    def test_what_another_hand_holds(self):
        house = settled_house(*net("z"))
        house.world.put("rock", Record(size="#1.id", net=1))
        house.wish("")
        self.assertEqual(ran(house), ["delete net.z refused"])
        self.assertEqual(house.state.addresses, ("net.z",))
        house.world.remove(2)
        self.assertEqual(ran(house), ["delete net.z done"])


class StaleTest(Running):
    def test_changed_by_another_hand(self):
        house = settled_house(*net("z"), *rock("r"), *rock("s"), *rock("t"))
        house.wish(lines(*net("z", size="5"), *rock("r"), *rock("s", net="3")))
        house.world.alter(1, "size", 9)
        house.world.alter(2, "size", 9)
        house.world.alter(3, "size", 9)
        house.world.alter(4, "size", 9)
        self.assertEqual(ran(house), [
            "change net.z stale", "delete rock.t stale", "make rock.s stale", "drop 3 skipped"])
        self.assertEqual([house.world[number].fields["size"] for number in house.world.numbers], [9] * 4)
        self.assertEqual(self.rows(house), [])
        # No request was sent, and no number of a row was taken.
        house.read()
        self.assertEqual(ran(house, "void")[0], "change net.z open")
        self.assertEqual(self.rows(house)[0][0], 5)

    def test_removed_by_another_hand(self):
        house = settled_house(*net("z"), *rock("r"), *pad("p"))
        house.wish(lines(*net("z", size="5"), *pad("p", "2")))
        for number in house.world.numbers:
            house.world.remove(number)
        self.assertEqual(ran(house), [
            "change net.z stale", "delete pad.p stale", "delete rock.r stale", "make pad.p skipped"])

    def test_a_left_thing(self):
        house = settled_house(*net("z"))
        house.wish(lines(*net("z", "5")))
        self.assertEqual(ran(house, "ok", "fail"), ["make net.z done", "drop 1 failed"])
        house.world.alter(1, "size", True)
        self.assertEqual(ran(house), ["drop 1 stale"])
        house.read()
        self.assertEqual(ran(house), ["drop 1 done"])

    def test_what_a_make_has_no_need_of(self):
        house = a_house(*net("z"))
        items = house.run(house.plan())
        house.world.put("net", NET)
        self.assertEqual(list(items), [(("make", "net.z"), "done")])
        self.assertEqual(house.state["net.z"].number, 2)


class DeniedTest(Running):
    def test_at_the_beginning(self):
        house = a_house(*net("b", "7"), *net("a", "8"), *rock("r"), "deny net own.range > 5", "deny rock own.size == 2")
        before = shown(house)
        with self.assertRaises(Denied) as caught:
            ran(house)
        self.assertEqual(caught.exception.value, "net.a")
        self.assertEqual(shown(house), before)

    def test_later(self):
        house = a_house(*net("z"), *rock("r", net="net.z.zone"), *rock("s", size="net.z.id"), *rock("t", net="rock.r.id"),
                        'deny rock own.net == "eu"')
        self.assertEqual(ran(house), ["make net.z done", "make rock.r denied", "make rock.s done", "make rock.t skipped"])
        self.assertEqual(house.state.addresses, ("net.z", "rock.s"))
        with self.assertRaises(Denied) as caught:
            ran(house)
        self.assertEqual(caught.exception.value, "rock.r")
        house = a_house(*net("z"), *rock("r", net="net.z.zone"), 'deny rock own.net == "us"')
        self.assertEqual(ran(house), ["make net.z done", "make rock.r done"])

    def test_rules_for_other_kinds(self):
        rules = ("deny net own.range > 5", "deny rock own.net == 5", "deny box true")
        house = a_house(*net("z"), *rock("r"), *rules)
        self.assertEqual(ran(house), ["make net.z done", "make rock.r done"])

    def test_what_is_not_known_yet(self):
        # Whether the rule denies hangs on an answer that is not known when the rock is made.
        house = a_house(*net("z"), *rock("a"), 'deny rock net.z.zone == "us"')
        self.assertEqual(ran(house), ["make net.z done", "make rock.a done"])
        house = a_house(*net("z"), *rock("a"), 'deny rock net.z.zone == "us"')
        self.assertEqual(ran(house, "fail"), ["make net.z failed", "make rock.a denied"])
        self.assertEqual(len(house.world), 0)
        house = a_house(*rock("a"), *box("z"), 'deny rock box.z.id == "us"')
        self.assertEqual(ran(house, "fail"), ["make box.z failed", "make rock.a done"])

    def test_denied_is_ahead_of_stale(self):
        house = settled_house(*rock("r"))
        house.wish(lines(*net("z"), *rock("r", size="net.z.zone"), 'deny rock own.size == "eu"'))
        house.world.alter(1, "size", 9)
        self.assertEqual(ran(house), ["make net.z done", "change rock.r denied"])

    def test_a_rule_that_cannot_be_evaluated(self):
        house = a_house(*net("z"), *rock("r", size="net.z.zone"), 'deny rock (if own.size == "eu" then 1 else false)')
        self.assertEqual(ran(house), ["make net.z done", "make rock.r denied"])

    def test_what_is_deleted_is_not_denied(self):
        house = settled_house(*rock("r"))
        house.wish("deny rock true")
        self.assertEqual(ran(house), ["delete rock.r done"])


class BeginningTest(Running):
    def refused(self, house, error, made, troubles=()):
        before = shown(house)
        items = house.run(made, troubles)
        # Nothing is looked at ahead of the first item.
        self.assertEqual(shown(house), before)
        with self.assertRaises(error) as caught:
            next(items)
        self.assertEqual(shown(house), before)
        return getattr(caught.exception, "value", None)

    def test_what_plan_raises(self):
        made = a_house(*net("z")).plan()
        self.refused(a_house(), NoProgram, made)
        house = a_house(*net("z"))
        ran(house, "lost")
        self.assertEqual(self.refused(house, Unsure, made), "net.z")
        house.world.remove(1)
        self.assertEqual(self.refused(house, Unsettled, made), 1)
        self.assertEqual(self.refused(a_house(*box("a"), *box("b")), Faulty, made), "box.a")
        house = settled_house(*box("a", label="1"), *box("b", label="2"))
        house.wish(lines(*box("a", label="2"), *box("b", label="1")))
        self.refused(house, Ring, made)

    def test_stale(self):
        house = a_house(*net("z"))
        empty = house.plan()
        finish(house)
        self.assertEqual(self.refused(house, Stale, empty), ("make", "net.z"))
        nothing = house.plan()
        house.wish(lines(*net("y")))
        self.assertIsNone(self.refused(house, Stale, nothing))
        other = house.plan()
        house.wish(lines(*net("a"), *net("y")))
        self.assertIsNone(self.refused(house, Stale, other))
        house.wish(lines(*net("a")))
        self.assertEqual(self.refused(house, Stale, other), ("make", "net.y"))
        # The first step that is not there is told, and this is told ahead of steps that are there beside.
        several = a_house(*net("y"), *net("x"), *net("a")).plan()
        self.assertEqual(self.refused(house, Stale, several), ("make", "net.x"))

    def test_stale_is_ahead_of_denied(self):
        house = a_house(*net("a"), "deny net true")
        self.assertEqual(self.refused(house, Stale, a_house(*net("b")).plan()), ("make", "net.b"))
        self.assertEqual(self.refused(house, Denied, a_house(*net("a")).plan()), "net.a")

    def test_told_fields_are_not_compared(self):
        made = a_house(*net("z", "5")).plan()
        house = a_house(*net("z", "7"))
        self.assertEqual(list(house.run(made)), [(("make", "net.z"), "done")])
        self.assertEqual(house.world[1].fields["range"], 7)

    def test_a_plan_without_steps(self):
        house = a_house(*net("z"))
        empty = settled_house(*net("z")).plan()
        with self.assertRaises(Stale) as caught:
            list(house.run(empty))
        self.assertIsNone(caught.exception.value)


class FieldsTest(Running):
    def test_answers_of_earlier_steps(self):
        house = a_house(*net("z"), *net("y"), *rock("r", size="[net.z.id, net.y.zone]", net="if net.z.zone == net.y.zone then 1 else 2"))
        self.assertEqual(ran(house), ["make net.y done", "make net.z done", "make rock.r done"])
        self.assertEqual(house.world[3].fields, Record(size=("#2.id", "eu"), net=2))

    def test_a_new_thing_in_place_of_an_elder_one(self):
        house = settled_house(*net("z"), *rock("r", size="net.z.zone"))
        house.wish(lines(*net("z", "5"), *rock("r", size="[net.z.zone]")))
        self.assertEqual(ran(house), ["make net.z done", "change rock.r done", "drop 1 done"])
        self.assertEqual((house.world[2].fields["size"], house.state["net.z"].number), (("us",), 3))

    def test_what_another_hand_has_changed_behind_a_make(self):
        house = a_house(*net("z"), *rock("r", size="net.z.id"))
        items = house.run(house.plan())
        next(items)
        house.world.alter(1, "size", 77)
        self.assertEqual(list(items), [(("make", "rock.r"), "done")])
        self.assertEqual(house.state["net.z"].fields["size"], 1)


if __name__ == "__main__":
    unittest.main()
