"""The refactorings renamed, counted and split (section 20)."""

import unittest

from laterknown.kinds import read_kinds
from laterknown.programs import read_program, show_program
from laterknown.refactoring import counted, quiet, renamed, split
from samples import ANY_VALUES, KINDS, ZONED, lines, outcome_of


def program(*rows):
    return read_program(KINDS, lines(*rows))


def net(name, range="1"):
    return (f"resource net {name}", f"  range {range}")


def box(name, size="1", net="2", label="3"):
    return (f"resource box {name}", f"  size {size}", f"  net {net}", f"  label {label}")


def module(name, *rows):
    return (f"module {name}", *[f"  {row}" for row in rows])


def pairs_of(pairs):
    """Pairs of addresses, written `old new`; one word for an address that keeps its name."""
    return tuple(sorted((pair.split(" ")[0], pair.split(" ")[-1]) for pair in pairs))


class Refactoring(unittest.TestCase):
    def check(self, call, given, arguments, rows, *pairs):
        """The program and the pairs that a refactoring returns; the given program is as before."""
        before = show_program(given)
        other, found = call(given, *arguments)
        self.assertEqual(show_program(other), show_program(read_program(given.kinds, lines(*rows))))
        self.assertEqual(found, pairs_of(pairs))
        self.assertTrue(quiet(given, other, found))
        self.assertEqual(show_program(given), before)
        self.assertEqual(read_program(given.kinds, show_program(other)), other)

    def check_errors(self, call, given, *told):
        """The errors of calls: their arguments, the name of the error, and its value."""
        for arguments, word, value in told:
            before = show_program(given)
            self.assertEqual(outcome_of(lambda: call(given, *arguments)), (word, value), arguments)
            self.assertEqual(show_program(given), before)

    def check_no_room(self, call, given, *arguments):
        with self.assertRaises(ValueError) as caught:
            call(given, *arguments)
        self.assertEqual(caught.exception.__class__.__name__, "NoRoom")


class UseLikeBlockTest(Refactoring):
    """A use and its module may be called like a block and its kind."""

    USE = (*module("box", "input top", "output all top"), "use box c", "  top 5")

    def test_lines_of_blocks(self):
        given = program(*self.USE, *box("c", "c.all"), *box("d count 1", "box.c.size", "c.all"))
        self.check(renamed, given, ("box", "c", "x"), (
            *self.USE, *box("x", "c.all"), *box("d count 1", "box.x.size", "c.all")), "box.c box.x", "box.d[0]")
        self.check(counted, given, ("box", "c"), (
            *self.USE, *box("c count 1", "c.all"), *box("d count 1", "box.c[0].size", "c.all")), "box.c box.c[0]", "box.d[0]")
        given = program(*self.USE, *box("c count 1", "c.all"), "let a [box.c[*].size, c.all]")
        self.check(split, given, ("box", "c", ("x",)), (
            *self.USE, *box("x", "c.all"), "let a [[box.x.size], c.all]"), "box.c[0] box.x")


class NoBlockTest(Refactoring):
    def test_any_values_as_kind_and_name(self):
        given = read_program(KINDS, ZONED)
        for call, more in ((renamed, ("IF",)), (counted, ()), (split, ((),))):
            for value in ANY_VALUES:
                for kind, name in ((value, "z"), ("net", value), (value, value)):
                    self.check_errors(call, given, ((kind, name, *more), "NoBlock", (kind, name)))
            # Blocks of modules are none of the root.
            for kind, name in (("box", "b"), ("main/box", "b"), ("net", "c"), ("box", "z"), ("home", "z")):
                self.check_errors(call, given, ((kind, name, *more), "NoBlock", (kind, name)))


class RenamedTest(Refactoring):
    def test_example(self):
        nets = "kind net\n  fixed range\n  fresh id\n  free zone\n  held\nkind box\n  set net"
        text = ('resource net z\n  range 9\n'
                'resource box c each if net.z.zone == "eu" then ["a"] else []\n  net net.z.id')
        given = read_program(read_kinds(nets), text)
        other, pairs = renamed(given, "net", "z", "home")
        self.assertEqual(pairs, (("box.c[a]", "box.c[a]"), ("net.z", "net.home")))
        self.assertTrue(quiet(given, other, pairs))
        self.assertEqual(other.blocks, ("net.home", "box.c"))

    def test_all_that_names_it(self):
        given = program(
            "let z net.z.id", *net("z"), *box("z", "len([net.z.zone]) + 1", "[[z], net.z.range]"),
            *box('k each if net.z.zone == "eu" then ["a"] else []', net="net.z.id", label="each"),
            *box("n count if 1 in [net.z.range] then 1 else 0", label="[index, net.z.zone]"),
            *module("pair", "input top", *net("z", "top"), "output zone net.z.zone"),
            "use pair main", "  top net.z.zone", "deny net net.z.range > 5 or own.range == net.z.id")
        self.check(renamed, given, ("net", "z", "y"), (
            "let z net.y.id", *net("y"), *box("z", "len([net.y.zone]) + 1", "[[z], net.y.range]"),
            *box('k each if net.y.zone == "eu" then ["a"] else []', net="net.y.id", label="each"),
            *box("n count if 1 in [net.y.range] then 1 else 0", label="[index, net.y.zone]"),
            *module("pair", "input top", *net("z", "top"), "output zone net.z.zone"),
            "use pair main", "  top net.y.zone", "deny net net.y.range > 5 or own.range == net.y.id"),
            "net.z net.y", "box.z", "box.k[a]", "box.n[0]", "main/net.z")

    def test_a_block_with_instances(self):
        given = program(*box("b count 2", net='box.k[["a", "b"][index]].id', label="index"),
                        *box('k each ["a", "b"]', label="each"), "let all box.k[*].id", 'let one box.k["b"].id')
        self.check(renamed, given, ("box", "k", "box"), (
            *box("b count 2", net='box.box[["a", "b"][index]].id', label="index"), *box('box each ["a", "b"]', label="each"),
            "let all box.box[*].id", 'let one box.box["b"].id'),
            "box.b[0]", "box.b[1]", "box.k[a] box.box[a]", "box.k[b] box.box[b]")

    def test_a_block_that_names_itself(self):
        given = program(*box("b count 2", size="index", net="[box.b[0].size, box.b[*].size]", label="index"))
        self.check(renamed, given, ("box", "b", "c"), (
            box("c count 2", size="index", net="[box.c[0].size, box.c[*].size]", label="index")),
            "box.b[0] box.c[0]", "box.b[1] box.c[1]")

    def test_names_of_other_things(self):
        given = program("let home 1", *net("z"), *net("q"), *box("home"))
        for new in ("home", "net", "box", "main"):
            other, pairs = renamed(given, "net", "z", new)
            self.assertEqual(other.blocks, (f"net.{new}", "net.q", "box.home"))
            self.assertEqual(pairs[-1], ("net.z", f"net.{new}"))

    def test_errors(self):
        given = read_program(KINDS, ZONED)
        self.check_errors(
            renamed, given, (("box", "c", "extra"), "Taken", "extra"), (("box", "c", "c"), "Taken", "c"),
            (("box", "c", "index"), "BadName", "index"), (("box", "c", "C"), "BadName", "C"),
            (("box", "c", "a" * 13), "BadName", "a" * 13), (("box", "q", "extra"), "NoBlock", ("box", "q")),
            (("box", "q", "C"), "NoBlock", ("box", "q")))
        for value in ANY_VALUES:
            if value not in ("a", "box"):
                self.check_errors(renamed, given, (("box", "c", value), "BadName", value))
        self.assertEqual(renamed(given, "box", "c", "a" * 12)[0].blocks[1], "box." + "a" * 12)

    def test_names_of_arguments(self):
        given = read_program(KINDS, ZONED)
        self.assertEqual(renamed(new="y", name="z", kind="net", program=given), renamed(given, "net", "z", "y"))


class CountedTest(Refactoring):
    def test_all_that_names_it(self):
        given = program(
            "let z net.z.id", *net("z"), *box("z", "len([net.z.zone]) + 1", "net.z.id"),
            *box('k each if net.z.zone == "eu" then ["a"] else []', label="each"), *box("n count net.z.range", label="index"),
            *module("pair", "input top", *net("z", "top"), "output zone net.z.zone"),
            "use pair main", "  top net.z.zone", "deny net net.z.range > 5")
        self.check(counted, given, ("net", "z"), (
            "let z net.z[0].id", *net("z count 1"), *box("z", "len([net.z[0].zone]) + 1", "net.z[0].id"),
            *box('k each if net.z[0].zone == "eu" then ["a"] else []', label="each"),
            *box("n count net.z[0].range", label="index"),
            *module("pair", "input top", *net("z", "top"), "output zone net.z.zone"),
            "use pair main", "  top net.z[0].zone", "deny net net.z[0].range > 5"),
            "net.z net.z[0]", "box.z", "box.k[a]", "box.n[0]", "main/net.z")

    def test_a_block_that_names_itself(self):
        given = program(*box("b", size="box.b.net", net="[1]", label="box.b.net[0]"))
        self.check(counted, given, ("box", "b"), box(
            "b count 1", size="box.b[0].net", net="[1]", label="box.b[0].net[0]"), "box.b box.b[0]")

    def test_a_fault(self):
        given = program(*box("b", size="1 + true"), *box("c", net="box.b.id"))
        self.check(counted, given, ("box", "b"), (*box("b count 1", size="1 + true"), *box("c", net="box.b[0].id")),
                   "box.b box.b[0]", "box.c")

    def test_errors(self):
        given = program(*box("b count 1"), *box('c each ["a"]'), *box("d"))
        self.check_errors(counted, given, (("box", "b"), "NotSingle", "b"), (("box", "c"), "NotSingle", "c"),
                          (("box", "q"), "NoBlock", ("box", "q")))
        self.assertEqual(counted(name="d", kind="box", program=given), counted(given, "box", "d"))

    def test_no_room_for_tokens(self):
        # The naming has five tokens, and eight with its index; each further part of the sum has two.
        for more, fits in ((146, True), (147, False)):
            given = program(*net("z"), "let a net.z.range" + " + 1" * more)
            if fits:
                counted(given, "net", "z")
            else:
                self.check_no_room(counted, given, "net", "z")

    def test_no_room_for_depth(self):
        for depth, fits in ((19, True), (20, False)):
            text = "[" * depth + "net.z.range" + "]" * depth
            given = program(*net("z"), f"let a {text}")
            if fits:
                counted(given, "net", "z")
            else:
                self.check_no_room(counted, given, "net", "z")
        # What is not named by this expression has room.
        given = program(*net("z"), *net("y"), f"let a {'[' * 20}net.y.range{']' * 20}")
        counted(given, "net", "z")


class SplitTest(Refactoring):
    def test_indexes(self):
        given = program(
            *net("z"), *box("b count 2", size="index + 1", net="[net.z.id, index]", label="index"),
            *box("c", net="box.b[1].id", label="[[box.b[*].id, 1], box.b[0].label]"), "let all box.b[*].size",
            *module("pair", "input top", *box("b count 2", label="[top, index]"), "output all box.b[*].id"),
            "use pair main", "  top box.b[*].label", "deny box own.size in box.b[*].label or box.b[0].net == 1")
        self.check(split, given, ("box", "b", ("x", "y")), (
            *net("z"), *box("x", size="0 + 1", net="[net.z.id, 0]", label="0"),
            *box("y", size="1 + 1", net="[net.z.id, 1]", label="1"),
            *box("c", net="box.y.id", label="[[[box.x.id, box.y.id], 1], box.x.label]"), "let all [box.x.size, box.y.size]",
            *module("pair", "input top", *box("b count 2", label="[top, index]"), "output all box.b[*].id"),
            "use pair main", "  top [box.x.label, box.y.label]",
            "deny box own.size in [box.x.label, box.y.label] or box.x.net == 1"),
            "net.z", "box.b[0] box.x", "box.b[1] box.y", "box.c", "main/box.b[0]", "main/box.b[1]")

    def test_keys(self):
        given = program(*net("z"), 'let more ["b", "a-1"]', *box('k each ["c"] ++ more', size="len(each ++ each)", label="each"),
                        'let b box.k["b"].id', 'let all box.k[*].label')
        self.check(split, given, ("box", "k", ("c", "b", "a")), (
            *net("z"), 'let more ["b", "a-1"]', *box("c", size='len("c" ++ "c")', label='"c"'),
            *box("b", size='len("b" ++ "b")', label='"b"'), *box("a", size='len("a-1" ++ "a-1")', label='"a-1"'),
            "let b box.b.id", "let all [box.c.label, box.b.label, box.a.label]"),
            "net.z", "box.k[c] box.c", "box.k[b] box.b", "box.k[a-1] box.a")

    def test_a_block_that_names_its_instances(self):
        given = program(*box("b count 2", size="index", net="[box.b[0].size, box.b[*].size]", label="index"))
        self.check(split, given, ("box", "b", ("x", "y")), (
            *box("x", size="0", net="[box.x.size, [box.x.size, box.y.size]]", label="0"),
            *box("y", size="1", net="[box.x.size, [box.x.size, box.y.size]]", label="1")), "box.b[0] box.x", "box.b[1] box.y")

    def test_no_instances(self):
        given = program(*net("z"), *box("b count 0", label="index"), *box("c each []"), "let all [box.b[*].id, box.c[*].net]")
        self.check(split, given, ("box", "b", ()), (*net("z"), *box("c each []"), "let all [[], box.c[*].net]"), "net.z")
        self.check(split, given, ("box", "c", ()), (
            *net("z"), *box("b count 0", label="index"), "let all [box.b[*].id, []]"), "net.z")

    def test_instances_that_are_the_same_under_all_rows(self):
        given = program(*net("z"), *box('b count if net.z.zone == "eu" then 1 else 2 - 1', label="index"))
        self.check(split, given, ("box", "b", ("x",)), (*net("z"), *box("x", label="0")), "box.b[0] box.x", "net.z")

    def test_instances(self):
        zoned = 'if net.z.zone == "eu" then {} else {}'
        rows = (*net("z"), *box("s"), *box("n count 2", label="index"), *box("m count " + zoned.format(1, 2), label="index"),
                *box("k each " + zoned.format('["a", "b"]', '["b", "a"]'), label="each"), *box("w count true"),
                *box("v count " + zoned.format(1, "true"), label="index"), *box('d each ["a", "a"]'))
        given = program(*rows)
        for name, names in (("s", ("x",)), ("s", ()), ("n", ("x",)), ("n", ("x", "y", "u")), ("n", ()), ("m", ("x",)),
                            ("m", ("x", "y")), ("k", ("x", "y")), ("w", ()), ("w", ("x",)), ("v", ("x",)), ("d", ("x",)),
                            ("d", ("x", "y")), ("n", (1,)), ("n", ([], "N", 5))):
            self.check_errors(split, given, (("box", name, names), "Loud", "instances"))

    def test_indexes_that_are_not_written(self):
        for row in ("let a box.b[1 - 1].id", "let a box.b[2].id", "let a box.b[-1].id", 'let a box.b["a"].id',
                    "let a box.b[true].id", "let a box.b[0].id\nlet c 1\nlet d box.b[c].id", "deny box box.b[own.size].id == 1",
                    "let a [box.b[*].id, len([box.b[len([])].id])]", 'let a box.k[0].id', 'let a box.k["c"].id',
                    'let a box.k[["a"][0]].id', "let a [box.b[0].id, box.b[box.b[0].size].id]"):
            given = program(*box("b count 2", label="index"), *box('k each ["a", "b"]', label="each"), row)
            name = "k" if "box.k" in row else "b"
            # Names that are none, and one that is taken, come behind.
            for names in (("x", "y"), ("b", "k"), (1, 2)):
                self.check_errors(split, given, (("box", name, names), "Loud", "index"))
        given = program(*box("b count 2", size="index", net="box.b[index].size", label="index"))
        self.check_errors(split, given, (("box", "b", ("x", "y")), "Loud", "index"))
        given = program(*box("b count 1"), *box("c count 1", net="box.b[index].id"), "let i 0")
        self.check_errors(split, given, (("box", "b", ("x",)), "Loud", "index"))
        # An index in parentheses is written all the same, and those of other blocks do not matter.
        given = program(*box("b count 2", label="index"), "let a box.b[(1)].id", *net("b count 1"), "let c net.b[1 - 1].id")
        self.assertEqual(split(given, "box", "b", ("x", "y"))[0].outline.root().lets["a"][0], "one")

    def test_indexes_in_modules(self):
        # What a module names is its own.
        rows = module("pair", "input top", *box("b count 2", label="index"), "output one box.b[top].id")
        given = program(*box("b count 1"), *rows, "use pair main", "  top 1")
        self.check(split, given, ("box", "b", ("x",)), (*box("x"), *rows, "use pair main", "  top 1"),
                   "box.b[0] box.x", "main/box.b[0]", "main/box.b[1]")

    def test_names(self):
        given = program(*box("b count 2", label="index"), *box("c"), *net("x"), "let y 1")
        self.check_errors(
            split, given, (("box", "b", ("b", "x")), "Taken", "b"), (("box", "b", ("x", "x")), "Taken", "x"),
            (("box", "b", ("x", "c")), "Taken", "c"), (("box", "b", ("X", "c")), "BadName", "X"),
            (("box", "b", ("c", "X")), "Taken", "c"), (("box", "b", ("x", "each")), "BadName", "each"))
        for value in ANY_VALUES:
            if value not in ("a", "box"):
                self.check_errors(split, given, (("box", "b", (value, "c")), "BadName", value),
                                  (("box", "b", ("x", value)), "BadName", value))
        self.check(split, given, ("box", "b", ("x", "y")), (
            *box("x", label="0"), *box("y", label="1"), *box("c"), *net("x"), "let y 1"),
            "box.b[0] box.x", "box.b[1] box.y", "box.c", "net.x")
        self.assertEqual(split(names=("x", "y"), name="b", kind="box", program=given)[1][0], ("box.b[0]", "box.x"))

    def test_twelve_blocks(self):
        for many, fits in ((10, True), (11, False)):
            rows = [row for at in range(many) for row in net(f"n{'abcdefghijkl'[at]}")]
            given = program(*rows, *box("b count 2", label="index"))
            if fits:
                self.assertEqual(len(split(given, "box", "b", ("x", "y"))[0].blocks), 12)
            else:
                self.check_no_room(split, given, "box", "b", ("x", "y"))
                self.check_errors(split, given, (("box", "b", ("x", "b")), "Taken", "b"))

    def test_no_room_in_expressions(self):
        # A list of twelve instances has 73 tokens.
        names = tuple("acdefghijklm")
        for more, fits in ((112, True), (113, False)):
            given = program(*net("b count 12", range="index"), "let a len(net.b[*].range)" + " + 1" * more)
            if fits:
                self.assertEqual(len(split(given, "net", "b", names)[1]), 12)
            else:
                self.check_no_room(split, given, "net", "b", names)
        for depth, fits in ((19, True), (20, False)):
            given = program(*net("b count 1"), f"let a {'[' * depth}net.b[*].range{']' * depth}")
            if fits:
                split(given, "net", "b", ("x",))
            else:
                self.check_no_room(split, given, "net", "b", ("x",))


if __name__ == "__main__":
    unittest.main()
