"""The refactoring wrapped (section 20)."""

import unittest

from laterknown.programs import read_program, show_program
from laterknown.refactoring import quiet, wrapped
from samples import ANY_VALUES, KINDS, ZONED
from test_refactoring import Refactoring, box, module, net, pairs_of, program

Z = (("net", "z"),)


class Wrapping(Refactoring):
    def wrap(self, given, blocks, inputs, outputs, *pairs):
        """Wraps blocks; what is given for the inputs and named by the outputs is this, in whatever sequence."""
        before = show_program(given)
        other, found = wrapped(given, blocks, "extra", "own" + "ed")
        self.assertEqual(found, pairs_of(pairs))
        self.assertTrue(quiet(given, other, found))
        self.assertEqual(show_program(given), before)
        self.assertEqual(read_program(given.kinds, show_program(other)), other)
        shown = [line.strip().split(" ", 2) for line in show_program(other).split("\n")]
        module_at = shown.index(["module", "extra"])
        use_at = shown.index(["use", "extra", "owned"])
        # What stands in the module and below the use; the sequence of lines in a module does not matter.
        within = [line for line in shown[module_at + 1:use_at]]
        names = [line[1] for line in within if line[0] == "input"]
        gives = dict((line[0], " ".join(line[1:])) for line in shown[use_at + 1:use_at + 1 + len(names)])
        self.assertEqual(sorted(gives), sorted(names))
        self.assertEqual(sorted(gives.values()), sorted(inputs))
        self.assertEqual(sorted(line[2] for line in within if line[0] == "output"), sorted(outputs))
        self.assertEqual(sorted(block for block in other.blocks if block.startswith("owned/")),
                         sorted(f"owned/{kind}.{name}" for kind, name in blocks))
        return other


class BlocksTest(Wrapping):
    def test_zoned(self):
        given = read_program(KINDS, ZONED)
        same = ("main/box.b[0]", "main/box.b[1]")
        self.wrap(given, Z, (), ("net.z.id", "net.z.zone"), *same, "box.c", "box.extra[a]", "net.z owned/net.z")
        self.wrap(given, (("box", "c"),), ("home",), (), *same, "box.c owned/box.c", "box.extra[a]", "net.z")
        self.wrap(given, (("box", "extra"),), ("net.z.id", "net.z.zone"), (),
                  *same, "box.c", "box.extra[a] owned/box.extra[a]", "net.z")
        self.wrap(given, (("box", "extra"), ("net", "z")), (), ("net.z.id",),
                  *same, "box.c", "box.extra[a] owned/box.extra[a]", "net.z owned/net.z")
        self.wrap(given, (("box", "extra"), ("net", "z"), ("box", "c")), ("home",), ("net.z.id",),
                  *same, "box.c owned/box.c", "box.extra[a] owned/box.extra[a]", "net.z owned/net.z")

    def test_names_in_both_directions(self):
        given = program(*net("z", "box.a.size"), *box("a", "1", "net.y.id", "2"), *net("y", "5"))
        other = self.wrap(given, (("net", "z"), ("net", "y")), ("box.a.size",), ("net.y.id",),
                          "net.z owned/net.z", "box.a", "net.y owned/net.y")
        self.assertEqual(len(other.blocks), 3)

    def test_a_block_of_a_module_with_the_same_name(self):
        given = program(*net("z"), *module("pair", "input top", *net("z", "top"), "output zone net.z.zone"),
                        "use pair main", "  top net.z.zone", *box("c", "pair.zone".replace("pair", "main"), "net.z.id"))
        self.wrap(given, Z, (), ("net.z.zone", "net.z.id"), "net.z owned/net.z", "main/net.z", "box.c")
        self.wrap(given, (("box", "c"),), ("main.zone", "net.z.id"), (), "net.z", "main/net.z", "box.c owned/box.c")

    def test_what_is_named_twice(self):
        given = program("let a net.z.id", *net("z"), *box("c", "[a, net.z.id, a]", "[a, net.z.id]", "main.all ++ main.all"),
                        "let c [box.c.size, box.c.size]", "deny box box.c.size == 1 and box.c.net == 2",
                        *module("pair", "output all [1]"), "use pair main")
        self.wrap(given, (("box", "c"),), ("a", "net.z.id", "main.all"), ("box.c.size", "box.c.net"),
                  "net.z", "box.c owned/box.c")

    def test_instances(self):
        given = program(
            *net("n count 3", "index"), *net('k each ["a", "b"]'),
            *box("c", "[net.n[0].id, net.n[1].id, net.n[0].id]", "[net.n[*].id, net.n[*].range, net.n[*].id]",
                 '[net.k["a"].id, net.k["b"].id, net.k["a"].zone, net.k[*].zone]'))
        inner = ("net.n[0].id", "net.n[1].id", "net.n[*].id", "net.n[*].range", 'net.k["a"].id', 'net.k["b"].id',
                 'net.k["a"].zone', "net.k[*].zone")
        pairs = ("net.n[0]", "net.n[1]", "net.n[2]", "net.k[a]", "net.k[b]")
        self.wrap(given, (("box", "c"),), inner, (), "box.c owned/box.c", *pairs)
        moved = [f"{address} owned/{address}" for address in pairs]
        self.wrap(given, (("net", "n"), ("net", "k")), (), inner, "box.c", *moved)
        self.wrap(given, (("net", "n"), ("net", "k"), ("box", "c")), (), (), "box.c owned/box.c", *moved)

    def test_a_use_and_a_module_that_are_called_like_a_block_and_its_kind(self):
        given = program(*module("box", "input top", "output all top"), "use box c", "  top net.z.id", *net("z"),
                        *box("c", "c.all"), "let a [box.c.size, c.all]")
        self.wrap(given, (("box", "c"),), ("c.all",), ("box.c.size",), "net.z", "box.c owned/box.c")
        self.wrap(given, Z, (), ("net.z.id",), "net.z owned/net.z", "box.c")

    def test_indexes_in_modules(self):
        # What a module names is its own.
        given = program(*net("n count 2"), *module("pair", "input top", *net("n count 2"), "output one net.n[top].id"),
                        "use pair main", "  top 1")
        self.wrap(given, (("net", "n"),), (), (), "net.n[0] owned/net.n[0]", "net.n[1] owned/net.n[1]",
                  "main/net.n[0]", "main/net.n[1]")

    def test_count_and_index(self):
        given = program("let many 2", *net("z"), *box("c count many", "index", 'if index == 0 then net.z.zone else "a"', "index"))
        self.wrap(given, (("box", "c"),), ("many", "net.z.zone"), (), "net.z", "box.c[0] owned/box.c[0]",
                  "box.c[1] owned/box.c[1]")

    def test_an_index_that_is_not_written_on_the_same_side(self):
        given = program("let at 1", *net("n count 2", "index"), *box("c", "net.n[at].id", "net.n[len([1])].range"))
        self.wrap(given, (("box", "c"), ("net", "n")), ("at",), (), "box.c owned/box.c", "net.n[0] owned/net.n[0]",
                  "net.n[1] owned/net.n[1]")
        self.wrap(program("let at 1", *net("n count 2", "index"), *net("z"), "let b net.n[at].id"), Z, (), (),
                  "net.z owned/net.z", "net.n[0]", "net.n[1]")

    def test_an_item_behind_what_is_named(self):
        given = program(*box("c", "[4, 5]", "[[1], [2]]"), *box("d", "box.c.size[1]", "box.c.net[1][0]"), "let a box.c.size[0]")
        self.wrap(given, (("box", "c"),), (), ("box.c.size", "box.c.net"), "box.c owned/box.c", "box.d")
        self.wrap(given, (("box", "d"),), ("box.c.size", "box.c.net"), (), "box.d owned/box.d", "box.c")

    def test_without_instances_and_with_faults(self):
        given = program(*box("c count 0", "index"), *box("d", "1 + true"), *box("e", "box.c[*].id", "box.d.id"),
                        *box("f count true", "box.d.id"))
        self.wrap(given, (("box", "c"), ("box", "d")), (), ("box.c[*].id", "box.d.id"), "box.d owned/box.d", "box.e")
        self.wrap(given, (("box", "f"), ("box", "e")), ("box.c[*].id", "box.d.id"), (), "box.d", "box.e owned/box.e")

    def test_names_that_are_like_those_of_kinds(self):
        # Names of inputs are none of kinds, however they are called.
        from laterknown.kinds import read_kinds
        from laterknown.refactoring import wrapped as wrap
        for letter in "abcdefghijklmnopqrstuvwxyz":
            kinds = read_kinds(f"kind net\n  set a\nkind given{letter}\n  set a\nkind told{letter}")
            given = read_program(kinds, f"let q 1\nresource given{letter} x\n  a q\nresource net y\n  a given{letter}.x.a")
            other, pairs = wrap(given, ((f"given{letter}", "x"),), "m", "u")
            self.assertTrue(quiet(given, other, pairs))


class KeysTest(Wrapping):
    def test_conditions_stay_lets(self):
        given = program(
            'let a ["x"]', 'let b a ++ ["y"]', 'let c if net.z.zone == "eu" and d then b ++ ["v"] else e', "let d net.z.range == 1",
            'let e if d then ["v"] else ["w"]', *net("z"), *box("k each c", "each", "each", "[a, each]"))
        other = self.wrap(
            given, (("box", "k"),), ("net.z.zone", "d", "a"), (), "net.z",
            *[f"box.k[{key}] owned/box.k[{key}]" for key in "vxy"])
        shown = [line.strip() for line in show_program(other).split("\n") if line.strip().startswith("resource box k")]
        self.assertEqual(len(shown), 1)
        # Parentheses that are not needed are not written.
        self.assertRegex(shown[0], r'^resource box k each if [a-z]+ == "eu" and [a-z]+ then \["x"\] \+\+ \["y"\] \+\+ \["v"\] '
                                   r'else if [a-z]+ then \["v"\] else \["w"\]$')

    def test_a_let_that_keys_alone_need(self):
        given = program('let a ["x"]', *box("k each a", "each", "each", "each"))
        self.wrap(given, (("box", "k"),), (), (), "box.k[x] owned/box.k[x]")

    def test_lets_that_name_chosen_blocks(self):
        given = program('let a if net.z.zone == "eu" then ["x"] else []', *net("z"), *box("k each a", "each", "net.z.id", "each"))
        self.wrap(given, (("box", "k"), ("net", "z")), (), ("net.z.zone",), "net.z owned/net.z", "box.k[x] owned/box.k[x]")

    def test_no_room_for_what_is_written_out(self):
        # Each let stands in an if of its own, so they stand in one another where they are written out.
        for many, fits in ((20, True), (21, False)):
            names = [f"l{'abcdefghijklmnopqrstuvw'[at]}" for at in range(many)]
            rows = [f'let {name} if net.z.range == 1 then ["x"] else {further}'
                    for name, further in zip(names, names[1:])]
            # The list stands in the last if.
            rows.append(f'let {names[-1]} ["x"]')
            given = program(*rows, *net("z"), *box(f"k each {names[0]}", "each", "each", "each"))
            if fits:
                wrapped(given, (("box", "k"),), "m", "u")
            else:
                self.check_no_room(wrapped, given, (("box", "k"),), "m", "u")

    def test_no_room_for_lets_that_double_what_they_stand_for(self):
        names = [f"l{letter}" for letter in "abcdefghijklmnopqrstuvwx"]
        rows = [f"let {name} {further} ++ {further}" for name, further in zip(names, names[1:])]
        given = program(*rows, f"let {names[-1]} []", *net("z"), *box(f"k each {names[0]}", "each", "each", "each"))
        self.check_no_room(wrapped, given, (("box", "k"),), "m", "u")
        # Errors that are listed first are told first.
        self.check_errors(wrapped, given, (((("box", "k"),), "m", "net"), "Taken", "net"))

    def test_no_room_for_tokens(self):
        # Each let has 39 tokens where it is written out, with an input for the zone, and the last list has two.
        keys = "[" + ", ".join(f'"{letter}"' for letter in "abcdefghijklmnop") + "]"
        for many, fits in ((7, True), (8, False)):
            names = [f"l{letter}" for letter in "abcdefghij"[:many]]
            rows = [f'let {name} if net.z.zone == "eu" then {keys} else {further}'
                    for name, further in zip(names, [*names[1:], "[]"])]
            given = program(*rows, *net("z"), *box(f"k each {names[0]}", "each", "each", "each"))
            if fits:
                wrapped(given, (("box", "k"),), "m", "u")
            else:
                self.check_no_room(wrapped, given, (("box", "k"),), "m", "u")


class ErrorsTest(Wrapping):
    def test_any_values_as_blocks(self):
        given = read_program(KINDS, ZONED)
        for value in ANY_VALUES:
            for pair in ((value, "z"), ("net", value), (value, value)):
                self.check_errors(wrapped, given, (((*Z, pair, ("x", "y")), "IF", "net"), "NoBlock", pair))
        self.check_errors(wrapped, given, (((("box", "b"),), "m", "u"), "NoBlock", ("box", "b")))

    def test_indexes_that_are_not_written(self):
        for rows in (
                ("let a net.n[len([])].id",), ("deny box net.n[own.size].id == 1",), box("d", "net.n[1 - 1].id"),
                ("let a [net.n[0].id, [net.n[true].id]]",), box("d count 1", "net.n[index].id"),
                (*module("p", "input top"), "use p main", "  top net.n[0 + 1].id")):
            given = program(*net("n count 2"), *net("z"), *box("c"), *rows)
            for module_name, use in (("m", "u"), ("IF", 1), ("p", "n")):
                self.check_errors(wrapped, given, (((("net", "n"),), module_name, use), "Loud", "index"))
        for field in ("net.n[0 + 1].id", "net.n[index].id", "[net.n[net.n[0].range].id]"):
            given = program(*net("n count 2"), *box("c count 2", field))
            self.check_errors(wrapped, given, (((("box", "c"),), "m", "u"), "Loud", "index"))
        given = program(*net("n count 2"), 'let a if net.n[1 - 1].zone == "eu" then ["x"] else []', *box("c each a"))
        self.check_errors(wrapped, given, (((("box", "c"),), "m", "u"), "Loud", "index"))
        # The conditions of lets that keys need over others are conditions of the keys.
        named = 'let a if net.n[1 - 1].zone == "eu" then ["x"] else []'
        for rows in (("let b a",), ('let b ["y"] ++ a',), ('let b if true then [] else a',), ("let b c", "let c a"),
                     ('let b if true then a else ["z"]',)):
            given = program(*net("n count 2"), named, *rows, *box("c each b"))
            self.check_errors(wrapped, given, (((("box", "c"),), "m", "u"), "Loud", "index"))
            # As an input, a let may name what it will.
            given = program(*net("n count 2"), named, *rows, *box("c", "b"))
            wrapped(given, (("box", "c"),), "m", "u")
            given = program(*net("n count 2"), named, *rows, *box('c each if b == [] then ["x"] else []'))
            wrapped(given, (("box", "c"),), "m", "u")
        given = program(*net("n count 2"), *box("c count net.n[1 - 1].range"))
        self.check_errors(wrapped, given, (((("box", "c"),), "m", "u"), "Loud", "index"))
        # Indexes that name no instance are written all the same.
        given = program(*net("n count 2"), *box("c", '[net.n[7].id, net.n["a"].id, net.n[-1].id]'))
        other, pairs = wrapped(given, (("net", "n"),), "m", "u")
        self.assertTrue(quiet(given, other, pairs))

    def test_names(self):
        given = program(*net("z"), "let home 1", *module("pair", "input top"), "use pair main", "  top 1")
        self.check_errors(
            wrapped, given, ((Z, "pair", "u"), "Taken", "pair"), ((Z, "in", "u"), "BadName", "in"),
            ((Z, "IF", "main"), "BadName", "IF"), ((Z, "pair", "IF"), "Taken", "pair"),
            ((Z, "m", "home"), "Taken", "home"), ((Z, "m", "main"), "Taken", "main"), ((Z, "m", "net"), "Taken", "net"),
            ((Z, "m", "box"), "Taken", "box"), ((Z, "m", "own"), "BadName", "own"),
            (((("net", "q"),), "IF", "IF"), "NoBlock", ("net", "q")))
        for value in ANY_VALUES:
            if value not in ("a", "box"):
                self.check_errors(wrapped, given, ((Z, value, "u"), "BadName", value), ((Z, "m", value), "BadName", value),
                                  ((Z, value, value), "BadName", value))
        for module_name, use in (("home", "pair"), ("main", "m"), ("net", "z"), ("box", "top"), ("m", "m")):
            other, pairs = wrapped(given, Z, module_name, use)
            self.assertEqual(pairs, (("net.z", f"{use}/net.z"),))
            self.assertIn(f"{use}/net.z", other.blocks)
        self.assertEqual(wrapped(use="u", module="m", blocks=Z, program=given), wrapped(given, Z, "m", "u"))

    def test_four_uses(self):
        for many, fits in ((3, True), (4, False)):
            uses = [f"use pair u{letter}" for letter in "abcd"[:many]]
            given = program(*net("z"), *module("pair"), *uses)
            if fits:
                wrapped(given, Z, "m", "u")
            else:
                self.check_no_room(wrapped, given, Z, "m", "u")
                self.check_errors(wrapped, given, ((Z, "m", "ua"), "Taken", "ua"))

    def test_twelve_inputs_and_outputs(self):
        for more in (0, 3):
            some = module("pair", *[f"input i{letter}" for letter in "abc"[:more]],
                          *[f"output o{letter} 1" for letter in "abc"[:more]])
            for many in range(12 - more - 1, 12 - more + 2):
                lets = [f"let l{letter} 1" for letter in "abcdefghijklmn"[:many]]
                named = ", ".join([f"l{letter}" for letter in "abcdefghijklmn"[:many]])
                given = program(*lets, *net("z", f"[{named}]"), *some)
                tells = program(*net("n count 0"), f"let a [{', '.join([f'net.n[{at}].id' for at in range(many)])}]", *some)
                if many + more <= 12:
                    wrapped(given, Z, "m", "u")
                    wrapped(tells, (("net", "n"),), "m", "u")
                else:
                    self.check_no_room(wrapped, given, Z, "m", "u")
                    self.check_no_room(wrapped, tells, (("net", "n"),), "m", "u")

    def test_many_inputs(self):
        # There are more of them than letters.
        indexes = [f"[{', '.join([f'net.n[{at}].{part}' for at in range(12)])}]" for part in ("id", "zone", "range")]
        given = program(*net("n count 12"), *box("c", *indexes))
        self.check_no_room(wrapped, given, (("box", "c"),), "m", "u")
        self.check_no_room(wrapped, given, (("net", "n"),), "m", "u")

    def test_twelve_blocks_have_room(self):
        rows = [row for letter in "abcdefghijkl" for row in net(f"n{letter}")]
        given = program(*rows)
        for many in (1, 12):
            blocks = tuple(("net", f"n{letter}") for letter in "abcdefghijkl"[:many])
            self.assertEqual(len(wrapped(given, blocks, "m", "u")[0].blocks), 12)


if __name__ == "__main__":
    unittest.main()
