"""Moves that are suggested (section 20)."""

import itertools
import random
import unittest

from laterknown.errors import Unsettled
from laterknown.house import House
from laterknown.kinds import read_kinds
from laterknown.matching import matched
from laterknown.moving import shows_moves, suggested_moves
from laterknown.programs import read_program
from laterknown.states import Row, State, state_of
from laterknown.values import Record
from laterknown.worlds import World
from randomly import random_case
from samples import ANY_VALUES, lines, outcome_of
from slowly import Slow, kind_name
from quietly import moved_state

KINDS = read_kinds(lines(
    "kind net", "  fixed range", "  set size", "  fresh id", "  free zone", "  held",
    "kind box", "  set size", "  set net", "  set label", "  fixed place", "  fresh id", "  unique label",
    "kind disk", "  set size", "  fresh id"))


def net(name, range="1", size="1"):
    return (f"resource net {name}", f"  range {range}", f"  size {size}")


def box(name, size="1", net="2", label="3", place="4"):
    return (f"resource box {name}", f"  size {size}", f"  net {net}", f"  label {label}", f"  place {place}")


def disk(name, size="1"):
    return (f"resource disk {name}", f"  size {size}")


def a_net(number, range=1, size=1):
    return number, Record(range=range, size=size), Record(id=f"#{number}.id", zone="eu")


def a_box(number, size=1, net=2, label=3, place=4):
    return number, Record(size=size, net=net, label=label, place=place), Record(id=f"#{number}.id")


def a_disk(number, size=1):
    return number, Record(size=size), Record(id=f"#{number}.id")


class Moving(unittest.TestCase):
    def given(self, rows, entries):
        self.program = read_program(KINDS, lines(*rows))
        self.state = state_of(KINDS, tuple((address, *parts) for address, parts in entries.items()))

    def found(self):
        found = suggested_moves(self.program, self.state)
        self.assertIs(shows_moves(self.program, self.state, found), True)
        return found

    def check(self, *levels):
        """The pairs of each level, written `old new`."""
        found = self.found()
        self.assertEqual([[" ".join(pair) for pair in pairs] for pairs, _ in found], [list(level) for level in levels])
        return found


class AddressesTest(Moving):
    def test_nothing_new(self):
        self.given((), {})
        self.assertEqual(self.found(), ())
        self.given(net("z"), {"net.z": a_net(1), "net.y": a_net(2)})
        self.assertEqual(self.found(), ())

    def test_lost_and_new(self):
        self.given(net("z"), {"net.y": a_net(1)})
        found = self.check(["net.y net.z"])
        self.assertEqual([name for name, _ in found[0][1]], ["net.y", "net.z"])
        # The only pair has the weight 43.
        self.assertEqual(sum(worth for _, worth in found[0][1]), 43)
        self.assertEqual(suggested_moves(state=self.state, program=self.program), found)
        self.assertTrue(shows_moves(value=found, state=self.state, program=self.program))

    def test_what_is_still_wished(self):
        self.given((*net("y"), *net("z")), {"net.y": a_net(1)})
        self.check([])
        zoned = 'if net.y.zone == "us" then ["a"] else []'
        self.given((*net("y", "5"), *disk(f"k each {zoned}"), *disk("z")), {"net.y": a_net(1), "disk.k[a]": a_disk(2)})
        # It is wished under some row, for the net gets another zone.
        self.check([])
        self.given((*net("y"), *disk(f"k each {zoned}"), *disk("z")), {"net.y": a_net(1), "disk.k[a]": a_disk(2)})
        self.check(["disk.k[a] disk.z"])

    def test_what_is_wished_under_some_rows(self):
        zoned = 'if net.y.zone == "us" then ["a"] else []'
        self.given((*net("y", "5"), *disk(f"k each {zoned}")), {"net.y": a_net(1), "disk.old": a_disk(2)})
        self.assertEqual(self.found(), ())

    def test_blocked_blocks(self):
        self.given((*disk("k count true"), *disk("z")), {"disk.k[0]": a_disk(1), "disk.k": a_disk(2), "disk.j[0]": a_disk(3)})
        self.check(["disk.j[0] disk.z"])
        zoned = 'if net.y.zone == "us" then true else 0'
        self.given((*net("y", "5"), *disk(f"k count {zoned}"), *disk("z")), {"net.y": a_net(1), "disk.k[0]": a_disk(2)})
        self.check([])

    def test_faults(self):
        # What cannot be evaluated has no fields: it fits just if its kind has no fixed ones.
        self.given((*net("z", "true + 1"), *net("y", "1", "true + 1"), *disk("d", "true + 1")),
                   {"net.q": a_net(1), "disk.q": a_disk(2)})
        self.check(["disk.q disk.d"])

    def test_rows_under_way(self):
        self.given(net("z"), {"net.y": a_net(1)})
        row = Row(7, ("make", "net.q"), "make", Record(range=1, size=1), 0, None)
        state = State().renewed({}, (), (row,))
        self.assertEqual(outcome_of(suggested_moves, self.program, state), ("Unsettled", 7))
        for value in ANY_VALUES:
            with self.assertRaises(Unsettled):
                shows_moves(self.program, state, value)


class FitTest(Moving):
    def test_kinds(self):
        self.given((*disk("z"), *net("z")), {"disk.y": a_disk(1), "box.y": a_box(2)})
        self.check(["disk.y disk.z"])

    def test_fixed_fields(self):
        self.given((*net("a", "1"), *net("b", "2"), *net("c", "true")), {"net.x": a_net(1, 2), "net.y": a_net(2, 3)})
        self.check(["net.x net.b"])
        self.given((*net("z", "5"), *box("c", place="net.z.zone"), *box("d", place='[net.z.range, "b"]')),
                   {"net.z": a_net(1), "box.y": a_box(2, place="eu"), "box.x": a_box(3, place=(5, "b"))})
        self.check(["box.x box.d"])

    def test_most_pairs_are_ahead_of_the_price(self):
        self.given((*box("a", 5, 6, 7), *box("b", place="9")), {"box.x": a_box(1), "box.y": a_box(2, place=9)})
        self.check(["box.x box.a", "box.y box.b"])
        self.given((*box("a", "5", "6", "7"), *box("b", "1", "2", "3")), {"box.x": a_box(1), "box.y": a_box(2, 5, 5, 5)})
        self.check(["box.x box.b", "box.y box.a"])

    def test_prices(self):
        # A unique field is dearer than all others together.
        self.given(box("a"), {"box.x": a_box(1, label=9), "box.y": a_box(2, 8, 8)})
        self.check(["box.y box.a"])
        self.given(box("a"), {"box.x": a_box(1, 8, 8), "box.y": a_box(2, 8)})
        self.check(["box.y box.a"])
        self.given(box("a"), {"box.x": a_box(1, True), "box.y": a_box(2)})
        self.check(["box.y box.a"])

    def test_prices_in_evidence(self):
        for entry, price in ((a_box(1), 0), (a_box(1, 5), 1), (a_box(1, 5, 5), 2), (a_box(1, 1, 2, 5), 7), (a_box(1, 5, 5, 5), 9)):
            self.given(box("a"), {"box.x": entry})
            found = self.check(["box.x box.a"])
            self.assertEqual(sum(worth for _, worth in found[0][1]), 43 - price)

    def test_what_is_not_known_yet(self):
        self.given((*net("z", "5"), *box("a", "net.z.zone", "net.z.id"), *box("b", "1", "net.z.id")),
                   {"net.z": a_net(1), "box.x": a_box(2, "eu", "#1.id"), "box.y": a_box(3, "eu", "#1.id")})
        found = self.found()
        # All four pairs fit; each has the price 2, for no field is the same under all rows and as it was.
        self.assertEqual(sum(worth for _, worth in found[0][1]), 2 * (1 + 42 * 4 - 2))

    def test_ties(self):
        self.given((*disk("a"), *disk("b")), {"disk.x": a_disk(1), "disk.y": a_disk(2), "disk.z": a_disk(3)})
        pairs, evidence = self.found()[0]
        self.assertEqual(len(pairs), 2)
        self.assertEqual(len(evidence), 5)

    def test_more_new_ones_than_lost_ones(self):
        self.given(disk("a count 3", "index"), {"disk.x": a_disk(1, 2)})
        self.check(["disk.x disk.a[2]"])


class LevelsTest(Moving):
    def test_answers(self):
        self.given((*net("z"), *box("c", net="net.z.id"), *box("d", net="[box.c.id]")),
                   {"net.y": a_net(1), "box.x": a_box(2, net="#1.id"), "box.w": a_box(3, net=("#2.id",))})
        # With the moves of the levels ahead the ids are recorded ones.
        self.check(["net.y net.z"], ["box.x box.c"], ["box.w box.d"])

    def test_ways(self):
        for rows in (
                ("let a net.z.id", *box("c", net="a")), (*box("c count len([net.z.id])"),),
                (*box('c each if net.z.zone == "eu" then ["a"] else ["a"]'),),
                (*module("output top net.z.id"), "use pair main", *box("c", net="main.top")),
                (*box("d", net="net.z.id"), *box("c", net="box.d.net")),
                ("module given", "  input top", *[f"  {row}" for row in box("c", net="top")], "use given extra", "  top net.z.id")):
            self.given((*(() if "module pair" in rows else net("z")), *rows), {})
            # All of them fit nothing, for there is nothing.
            levels = [sorted(name for name, _ in evidence) for _, evidence in suggested_moves(self.program, self.state)]
            self.assertEqual(len(levels), 2, rows)
            self.assertTrue([name for name in levels[1] if "box.c" in name], rows)
            self.assertTrue([name for name in levels[0] if "net.z" in name], rows)

    def test_fields_lead_to_no_answers(self):
        self.given((*net("z", "5"), *box("c", net="net.z.range")), {})
        self.assertEqual([len(evidence) for _, evidence in self.found()], [2])
        # A field leads to what its own expression names, and to the count of its block.
        self.given((*net("z", "5"), *net("y count len([net.z.id])"), *box("c", net="net.y[0].range")), {})
        self.assertEqual([[name for name, _ in evidence] for _, evidence in self.found()], [["net.z"], ["box.c", "net.y[0]"]])

    def test_blocks_without_new_addresses(self):
        self.given((*net("a"), *net("b", "net.a.id"), *box("c", net="net.b.id")), {"net.b": a_net(1, "#9.id")})
        self.assertEqual([[name for name, _ in evidence] for _, evidence in self.found()], [["net.a"], ["box.c"]])
        self.given((*net("a"), *net("b", "net.a.id"), *box("c", net="net.b.id")), {"net.a": a_net(1), "net.b": a_net(2, "#1.id")})
        self.assertEqual([[name for name, _ in evidence] for _, evidence in self.found()], [["box.c"]])

    def test_lost_ones_are_those_of_the_given_state(self):
        # What an earlier level has taken up is lost no longer; what it has not can be taken up later.
        self.given((*disk("a"), *disk("b", "disk.a.id")), {"disk.x": a_disk(1), "disk.y": a_disk(2, "#1.id")})
        found = self.check(["disk.x disk.a"], ["disk.y disk.b"])
        self.assertEqual([[name for name, _ in evidence] for _, evidence in found],
                         [["disk.a", "disk.x", "disk.y"], ["disk.b", "disk.y"]])


def module(*rows):
    """A module with a net that is called z."""
    return ("module pair", *[f"  {row}" for row in net("z")], *[f"  {row}" for row in rows])


class ShowsTest(Moving):
    def setUp(self):
        self.given((*disk("a", "5"), *disk("b", "6"), *net("n"), *box("c", net="net.n.id")),
                   {"disk.x": a_disk(1, 6), "disk.y": a_disk(2, 5), "disk.z": a_disk(3, 7), "net.o": a_net(4)})
        self.right = self.found()

    def shows(self, value):
        return shows_moves(self.program, self.state, value)

    def test_right_ones(self):
        self.assertEqual(self.right[0][0], (("disk.x", "disk.b"), ("disk.y", "disk.a"), ("net.o", "net.n")))
        self.assertTrue(self.shows(self.right))

    def with_level(self, at, pairs=None, evidence=None):
        levels = [list(level) for level in self.right]
        if pairs is not None:
            levels[at][0] = pairs
        if evidence is not None:
            levels[at][1] = evidence
        return tuple(tuple(level) for level in levels)

    def test_pairs_otherwise(self):
        pairs = self.right[0][0]
        for wrong in (
                pairs[::-1], (pairs[1], pairs[0], pairs[2]), (pairs[0], pairs[2], pairs[1]), pairs[:2], pairs + pairs[2:], (("disk.x", "disk.a"), ("disk.y", "disk.b"), pairs[2]),
                (("disk.x", "disk.b"), ("disk.z", "disk.a"), pairs[2]), list(pairs), (*pairs[:2], ["net.o", "net.n"]),
                (*pairs[:2], ("net.o", "net.n", 1)), (*pairs[:2], ("net.o", 5)), (*pairs[:2], ("disk.z", "net.n")),
                (*pairs[:2], ("net.o", "box.c")), (("disk.x", "disk.b"), ("disk.x", "disk.a"), pairs[2]), (), 5):
            self.assertIs(self.shows(self.with_level(0, pairs=wrong)), False, wrong)

    def test_evidence_otherwise(self):
        evidence = self.right[0][1]
        for at in range(len(evidence)):
            name, worth = evidence[at]
            for other in (worth + 1, worth - 1, -1, True, str(worth), None, (worth,)):
                wrong = (*evidence[:at], (name, other), *evidence[at + 1:])
                self.assertIs(self.shows(self.with_level(0, evidence=wrong)), False, wrong)
            self.assertIs(self.shows(self.with_level(0, evidence=evidence[:at] + evidence[at + 1:])), False)
            self.assertIs(self.shows(self.with_level(0, evidence=evidence[:at + 1] + evidence[at:])), False)
        for wrong in (evidence[::-1], (evidence[1], evidence[0], *evidence[2:]), list(evidence), (*evidence, ("net.zz", 0)), tuple(sorted((*evidence, ("box.c", 0)))), (), 5):
            self.assertIs(self.shows(self.with_level(0, evidence=wrong)), False, wrong)

    def test_other_evidence(self):
        # What one of a pair has less the other one may have more, as long as all pairs that fit have enough.
        self.given(disk("a"), {"disk.x": a_disk(1)})
        for one in range(44):
            self.assertTrue(self.shows((((("disk.x", "disk.a"),), (("disk.a", one), ("disk.x", 43 - one))),)), one)
        for one in (-1, 44):
            self.assertFalse(self.shows((((("disk.x", "disk.a"),), (("disk.a", one), ("disk.x", 43 - one))),)), one)

    def test_one_lost_address_in_two_pairs(self):
        self.given((*disk("a"), *disk("b")), {"disk.x": a_disk(1)})
        pairs = (("disk.x", "disk.a"), ("disk.x", "disk.b"))
        self.assertFalse(self.shows(((pairs, (("disk.a", 85), ("disk.b", 85), ("disk.x", 0))),)))
        self.given(disk("a"), {"disk.x": a_disk(1), "disk.y": a_disk(2)})
        pairs = (("disk.x", "disk.a"), ("disk.y", "disk.a"))
        self.assertFalse(self.shows(((pairs, (("disk.a", 0), ("disk.x", 85), ("disk.y", 85))),)))

    def test_pairs_of_any_values(self):
        evidence = self.right[0][1]
        for value in ANY_VALUES:
            for pair in ((value, "disk.a"), ("disk.x", value), (value, value)):
                self.assertIs(self.shows((((pair,), evidence), self.right[1])), False, pair)
            self.assertIs(self.shows(((self.right[0][0], ((value, 1),)), self.right[1])), False, value)

    def test_levels_otherwise(self):
        first, second = self.right
        for wrong in ((first,), (second, first), (first, second, ((), ())), [first, second], (first, list(second)),
                      (first, second[:1]), (first, (*second, 1)), (first, None), (first, ((), ())), ()):
            self.assertIs(self.shows(wrong), False, wrong)

    def test_any_values(self):
        for value in ANY_VALUES:
            self.assertIs(self.shows(value), False, value)
            self.assertIs(self.shows((value, value)), False, value)
            self.assertIs(self.shows(((value, value), (value, value))), False, value)
            self.assertIs(self.shows((((value,), (value,)), ((value,), (value,)))), False, value)
        self.given((), {})
        for value in ANY_VALUES:
            self.assertIs(self.shows(value), value == (), value)

    def test_pairs_of_an_earlier_level(self):
        self.given((*disk("a"), *disk("b", "disk.a.id")), {"disk.x": a_disk(1), "disk.y": a_disk(2)})
        first, second = self.found()
        self.assertTrue(self.shows((first, second)))
        again = (first, ((("disk.x", "disk.b"),), (("disk.b", 0), ("disk.y", 42))))
        self.assertFalse(self.shows(again))


class MatchedTest(unittest.TestCase):
    """The greatest weights, beside all ways to choose pairs."""

    def best(self, ones, others, weights):
        found = 0
        for many in range(min(len(ones), len(others)) + 1):
            for some in itertools.combinations(ones, many):
                for like in itertools.permutations(others, many):
                    if all(pair in weights for pair in zip(some, like)):
                        found = max(found, sum(weights[pair] for pair in zip(some, like)))
        return found

    def test_all_ways(self):
        for seed in range(300):
            chance = random.Random(seed)
            ones = [f"a{at}" for at in range(chance.randrange(5))]
            others = [f"b{at}" for at in range(chance.randrange(5))]
            weights = {(one, other): chance.choice((1, 2, 3, 5, 50, 51)) for one in ones for other in others
                       if chance.random() < 0.6}
            pairs, worths = matched(ones, others, weights)
            total = sum(weights[pair] for pair in pairs)
            self.assertEqual(total, self.best(ones, others, weights), seed)
            table = dict(worths)
            self.assertEqual(list(worths), sorted(table.items()))
            self.assertEqual(sorted(table), sorted(ones + others))
            self.assertTrue(all(worth >= 0 for worth in table.values()))
            self.assertTrue(all(table[one] + table[other] >= weight for (one, other), weight in weights.items()))
            self.assertEqual(sum(table.values()), total)
            self.assertEqual(list(pairs), sorted(pairs))


class BroughtAboutTest(Moving):
    """The moves brought about: what a pair could keep is not deleted."""

    def test_a_block_that_got_another_name(self):
        rows = (*net("z"), *box("c", net="net.z.id", label='"c"'), *box('k each ["a", "b"]', net="net.z.id", label="each"))
        house = House(World(KINDS))
        house.wish(lines(*rows))
        while house.plan():
            list(house.run(house.plan()))
        numbers = house.world.numbers
        house.wish(lines(*net("home"), *box("d", net="net.home.id", label='"c"'),
                         *box('kept each ["a", "b"]', net="net.home.id", label="each")))
        for pairs, _ in suggested_moves(house.program, house.state):
            house.move(pairs)
        self.assertEqual(len(house.plan()), 0)
        self.assertEqual(house.world.numbers, numbers)

    def test_by_chance(self):
        """In each level there are as many pairs as there can be, found slowly, with the least prices."""
        seen = 0
        for seed in range(3000, 3060):
            kinds, program, state = random_case(seed, 1, 3)
            chance = random.Random(seed)
            # Some of the addresses of the state get other names, so that they are lost.
            names = {at: at.replace(".", ".old") for at in state.addresses if chance.random() < 0.6}
            state = moved_state(state, names)
            found = suggested_moves(program, state)
            self.assertTrue(shows_moves(program, state, found), seed)
            first = Slow(program, state)
            lost = [at for at in state.addresses if not any(at in view.fields or at.split("[")[0] in view.blocked
                                                            for view in first.views)]
            moved = {}
            for pairs, evidence in found:
                slow = Slow(program, moved_state(state, moved))
                left = [at for at in lost if at not in moved]
                news = [name for name, _ in evidence if name not in left]
                weights = self.weights(slow, left, news)
                best = MatchedTest.best(self, left, news, weights)
                self.assertEqual(sum(weights[pair] for pair in pairs), best, seed)
                moved.update(dict(pairs))
                seen += len(pairs)
        self.assertGreater(seen, 30)

    def weights(self, slow, lost, news):
        prices = {}
        for old in lost:
            for new in news:
                if kind_name(old) == kind_name(new):
                    price = self.price(slow, old, new)
                    if price is not None:
                        prices[(old, new)] = price
        return {pair: 1 + 42 * len(prices) - price for pair, price in prices.items()}

    def price(self, slow, old, new):
        kind, recorded = slow.kind(new), slow.state[old].fields
        price = 0
        for name in kind.fixed_fields + kind.set_fields:
            kept = all(view.fields.get(new) is not None and
                       Record(a=view.fields[new][name]) == Record(a=recorded[name]) for view in slow.views)
            if not kept and name in kind.fixed_fields:
                return None
            if not kept:
                price += 7 if name in kind.unique_fields else 1
        return price


if __name__ == "__main__":
    unittest.main()
