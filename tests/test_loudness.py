"""Quiet and loud programs (section 20)."""

import unittest

from laterknown.kinds import read_kinds
from laterknown.programs import read_program
from laterknown.refactoring import loud, quiet, shows_loud
from samples import ANY_VALUES, KINDS, ZONED, lines

EU = ((("net.z", "zone"), "eu"),)
SAME = (("box.c", "box.c"), ("box.extra[a]", "box.extra[a]"), ("main/box.b[0]", "main/box.b[0]"),
        ("main/box.b[1]", "main/box.b[1]"), ("net.z", "net.z"))


def program(*rows):
    return read_program(KINDS, lines(*rows))


def net(name, range="1"):
    return (f"resource net {name}", f"  range {range}")


def box(name, size="1", net="2", label="3"):
    return (f"resource box {name}", f"  size {size}", f"  net {net}", f"  label {label}")


class LoudTest(unittest.TestCase):
    def check(self, one, other, pairs, is_quiet):
        self.assertIs(quiet(one, other, pairs), is_quiet)
        found = loud(one, other, pairs)
        if is_quiet:
            self.assertIsNone(found)
            self.assertIs(shows_loud(one, other, pairs, ()), False)
        else:
            self.assertIs(shows_loud(one, other, pairs, found), True)
        return found


class ZonedTest(LoudTest):
    def changed(self, old, new):
        self.assertIn(old, ZONED)
        return read_program(KINDS, ZONED.replace(old, new))

    def test_itself(self):
        self.check(read_program(KINDS, ZONED), self.changed("9", "9"), SAME, True)

    def test_other_lines_that_say_the_same(self):
        for old, new in (
                ("net home", "net net.z.id"), ("size 1\n  net home", "size 2 - 1\n  net home"),
                ("\n  output sizes box.b[*].size", ""), ("deny box own.size > 5", "deny box not own.size < 6"),
                ('if net.z.zone == "eu" then ["a"] else []', 'if not net.z.zone == "eu" then [] else ["a"]')):
            self.check(read_program(KINDS, ZONED), self.changed(old, new), SAME, True)

    def test_one_part_otherwise(self):
        for old, new in (
                ("range 9", "range 8"), ('== "eu"', '!= "eu"'), ('== "eu"', '== "us"'), ("count 2", "count 1"),
                ('["c"]', '["d"]'), ("  net home", "  net net.z.zone"), ("own.size > 5", "own.size > 2"),
                ('["a"]', '["b"]'), ("[each]", "[each, each]"), ("use pair main", "use pair other"),
                ('net "none"', 'net ["none"]'), ("top 3", "top true"),
                ('label ["b", index]', 'label "b"')):
            self.check(read_program(KINDS, ZONED), self.changed(old, new), SAME, False)

    def test_rows_that_show(self):
        one = read_program(KINDS, ZONED)
        other = self.changed('== "eu"', '== "us"')
        us = ((("net.z", "zone"), "us"),)
        self.assertIn(loud(one, other, SAME), (EU, us))
        strange = (("box.q", "zone"), "eu")
        for row, shown in ((EU, True), (us, True), ((), False), (((("net.z", "zone"), "a"),), False),
                           ((strange, *EU), True), ((strange,), False)):
            self.assertIs(shows_loud(one, other, SAME, row), shown, row)

    def test_rules(self):
        one = read_program(KINDS, ZONED)
        for more, is_quiet in (("deny box own.size > 9", True), ("deny box own.size == 1", False), ("deny box 1", False),
                               ("deny box own.size > true", False), ("deny net own.range < 0", True),
                               ('deny net net.z.zone == "eu"', False)):
            self.check(one, read_program(KINDS, ZONED + "\n" + more), SAME, is_quiet)
        # The numbers of rules that say true are compared, not the rules.
        two = read_program(KINDS, ZONED + "\ndeny box own.size == 1")
        self.check(two, read_program(KINDS, ZONED + "\ndeny box own.net == 9 or own.size == 1"), SAME, True)

    def test_pairs(self):
        one = read_program(KINDS, ZONED)
        other = self.changed("9", "9")
        for at in range(len(SAME)):
            self.check(one, other, SAME[:at] + SAME[at + 1:], False)
        self.check(one, other, (("box.c", "main/box.b[0]"), *SAME[1:2], ("main/box.b[0]", "box.c"), *SAME[3:]), False)
        self.check(one, other, (*SAME, ("box.q", "net.z"), ("net.q", "net.r")), True)
        self.check(one, other, SAME[::-1], True)
        self.check(one, other, (*SAME, ("net.z", "net.y")), False)
        self.check(one, other, (*SAME[:-1], ("net.z", "net.y")), False)
        self.check(one, other, (*SAME[:-1], ("net.z", "box.c")), False)

    def test_any_values_as_rows(self):
        one = read_program(KINDS, ZONED)
        other = self.changed("9", "8")
        for value in ANY_VALUES:
            self.assertIs(shows_loud(one, other, SAME, value), value == (), value)
        pair = ("net.z", "zone")
        for wrong in ([], [(pair, "eu")], ((pair, "eu"), (pair, "eu")), ((pair, 1),), ((pair, "#1.id"),), (pair,),
                      ((pair, "eu"), (("a", "zone"), "eu")), ((("net.z",), "eu"),), (([], "eu"),)):
            self.assertIs(shows_loud(one, other, SAME, wrong), False, wrong)
        self.assertTrue(shows_loud(one, other, SAME, ((("a", "zone"), "eu"), (pair, "eu"))))

    def test_names_of_arguments(self):
        one = read_program(KINDS, ZONED)
        self.assertTrue(quiet(pairs=SAME, other=one, one=one))
        self.assertIsNone(loud(pairs=SAME, other=one, one=one))
        self.assertFalse(shows_loud(value=(), pairs=SAME, other=one, one=one))


class NamesTest(LoudTest):
    def test_other_names(self):
        one = program(*net("z"), *box("c", net="[net.z.id, net.z.zone]"))
        other = program(*box("d", net="[net.y.id, net.y.zone]"), *net("y"))
        self.check(one, other, (("box.c", "box.d"), ("net.z", "net.y")), True)
        self.check(one, other, (("net.z", "net.y"),), False)
        self.check(one, program(*net("y"), *box("d", net="[net.y.zone, net.y.id]")),
                   (("box.c", "box.d"), ("net.z", "net.y")), False)

    def test_exchanged_names(self):
        one = program(*net("a"), *net("b"), *box("c", net='if net.a.zone == "eu" then net.b.zone else net.a.id'))
        other = program(*net("a"), *net("b"), *box("c", net='if net.b.zone == "eu" then net.a.zone else net.b.id'))
        turned = (("box.c", "box.c"), ("net.a", "net.b"), ("net.b", "net.a"))
        self.check(one, other, turned, True)
        self.check(one, other, tuple((old, old) for old, _ in turned), False)
        row = ((("net.a", "zone"), "eu"), (("net.b", "zone"), "us"))
        self.assertTrue(shows_loud(one, other, tuple((old, old) for old, _ in turned), row))
        self.assertFalse(shows_loud(one, other, turned, row))

    def test_other_kinds(self):
        one = read_program(read_kinds("kind net\nkind box"), "resource net a")
        other = read_program(read_kinds("kind net\nkind box"), "resource box a")
        self.check(one, other, (("net.a", "box.a"),), False)

    def test_uses(self):
        module = ("module pair", "  input top", *[f"  {row}" for row in box("b", "top", "top")], "  output all box.b.id")
        one = program(*net("z"), *module, "use pair one", "  top net.z.zone")
        other = program(*net("z"), *box("b", "net.z.zone", "net.z.zone"))
        self.check(one, other, (("net.z", "net.z"), ("one/box.b", "box.b")), True)

    def test_addresses_that_are_wished_under_some_rows_only(self):
        eu = 'net.z.zone == "eu"'
        one = program(*net("z"), *box(f'a each if {eu} then ["k"] else []', net="net.z.zone"),
                      *box(f'b each if {eu} then [] else ["k"]', net="net.z.zone"))
        other = program(*net("z"), *box('c each ["k"]', net="net.z.zone"))
        pairs = (("box.a[k]", "box.c[k]"), ("box.b[k]", "box.c[k]"), ("net.z", "net.z"))
        self.check(one, other, pairs, True)
        self.assertEqual(self.check(one, other, pairs[1:], False), EU)
        self.assertNotEqual(self.check(one, other, (pairs[0], pairs[2]), False), EU)
        # The way back leads from one address to two.
        self.check(other, one, tuple((new, old) for old, new in pairs), False)

    def test_answers_of_what_is_wished_under_some_rows_only(self):
        eu = 'net.z.zone == "eu"'
        one = program(*net("z"), *net(f'a each if {eu} then ["k"] else []'), *net(f'b each if {eu} then [] else ["k"]'),
                      *box("d", net=f'(if {eu} then net.a["k"].zone else net.b["k"].zone) == "us"'))
        other = program(*net("z"), *net('c each ["k"]'), *box("d", net='net.c["k"].zone == "us"'))
        third = program(*net("z"), *net('c each ["k"]'), *box("d", net=f'{eu} and net.c["k"].zone == "us"'))
        pairs = (("box.d", "box.d"), ("net.a[k]", "net.c[k]"), ("net.b[k]", "net.c[k]"), ("net.z", "net.z"))
        self.check(one, other, pairs, True)
        found = dict(self.check(one, third, pairs, False))
        self.assertEqual(found[("net.b[k]", "zone")], "us")

    def test_the_same_pair_twice(self):
        one = program(*net("z"))
        self.check(one, one, (("net.z", "net.z"), ("net.z", "net.z")), True)

    def test_empty_programs(self):
        self.check(program(), program(), (), True)
        self.check(program(), program(*net("z")), (), False)
        self.check(program(*net("z")), program(), (("net.z", "net.z"),), False)


class FaultsTest(LoudTest):
    def test_evaluate(self):
        one = program(*net("z"), *box("c", "1 + true"))
        pairs = (("box.c", "box.c"), ("net.z", "net.z"))
        self.check(one, program(*net("z"), *box("c", "len(5)", "7")), pairs, True)
        self.check(one, program(*net("z"), *box("c")), pairs, False)
        self.check(program(*net("z"), *box("c")), one, pairs, False)

    def test_unique(self):
        pairs = (("box.c", "box.c"), ("box.d", "box.d"))
        one = program(*box("c", label="1"), *box("d", label="1"))
        self.check(one, one, pairs, True)
        # The fields of both are as in the other program, but they have a value in common with a third box.
        self.check(program(*box("c", label="1"), *box("d", label="2")), one, pairs, False)
        zones = ("net.a", "net.a"), ("net.b", "net.b")
        two = program(*net("a"), *net("b"), *box("c", label="net.a.zone"), *box("d", label="net.b.zone"))
        self.check(two, two, pairs + zones, True)

    def test_blocked_blocks(self):
        pairs = (("net.z", "net.z"),)
        blocked = program(*net("z"), *box("c count true"))
        self.check(blocked, program(*net("z"), *box("d count 13")), pairs, True)
        self.check(blocked, program(*net("z"), *box("d count 0")), pairs, False)
        self.check(program(*net("z"), *box("d count 0")), blocked, pairs, False)
        sometimes = program(*net("z"), *box('d count if net.z.zone == "eu" then 0 else "none"'))
        self.assertEqual(self.check(blocked, sometimes, pairs, False), EU)
        two = program(*net("z"), *box("d count 13"), *box("c count true"))
        self.check(blocked, two, pairs, True)

    def test_rules_and_what_has_no_values(self):
        # A rule that names a field of it cannot be evaluated, so it says true; others say what they say.
        pairs = (("box.c", "box.c"),)
        one = program(*box("c", "1 + true"))
        for rule, is_quiet in (("own.size == 1", False), ("own.net == 1", False), ("true", False), ("false", True),
                               ("1 == 2 and own.size == 1", True)):
            self.check(one, program(*box("c", "1 + true"), f"deny box {rule}"), pairs, is_quiet)
        two = program(*box("c", "1 + true"), "deny box own.net == 2")
        self.check(two, program(*box("c", "1 + true"), "deny box own.net == 3"), pairs, True)


if __name__ == "__main__":
    unittest.main()
