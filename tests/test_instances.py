"""Counts and keys (point 7), addresses, and the depth of blocks (point 9)."""

import unittest

from laterknown.addresses import block_of, kind_of
from laterknown.outcomes import outcome
from laterknown.programs import read_program
from laterknown.states import State, state_of
from laterknown.values import Record
from samples import KINDS, ZONED, lines

ZONE = ("net.z", "zone")
NET = ("resource net z", "  range 9")


def box(how, name="b"):
    return (f"resource box {name}{how}", "  size 1", "  net 1", f'  label ["{name}"]' if not how else "  label 1")


class InstancesTest(unittest.TestCase):
    def found(self, *rows, row=(), state=State()):
        return outcome(read_program(KINDS, lines(*NET, *rows)), state, row)

    def instances(self, how, row=()):
        """The indexes and keys of a block, None if it is blocked."""
        found = self.found(*box(how), row=row)
        if found.blocked:
            self.assertEqual(found.blocked, ("box.b",))
            self.assertEqual(found.addresses, ("net.z",))
            return None
        return [address[5:] for address in found.addresses if address != "net.z"]

    def test_counts(self):
        self.assertEqual(self.instances(" count 0"), [])
        self.assertEqual(self.instances(" count 1"), ["[0]"])
        self.assertEqual(self.instances(" count 2 + 1"), ["[0]", "[1]", "[2]"])
        self.assertEqual(len(self.instances(" count 12")), 12)
        self.assertEqual(self.instances(" count 12")[:4], ["[0]", "[10]", "[11]", "[1]"])
        self.assertEqual(self.instances(""), [""])

    def test_what_is_no_count(self):
        for text in ("13", "-1", "true", "false", '"1"', "[1]", "[]", "net.z.id", "net.z.zone", '1 + "a"', "1000000"):
            self.assertIsNone(self.instances(f" count {text}"), text)

    def test_keys(self):
        self.assertEqual(self.instances(" each []"), [])
        self.assertEqual(self.instances(' each ["b", "a"] ++ (if true then ["c-9"] else ["d"])'),
            ["[a]", "[b]", "[c-9]"])
        sixteen = ", ".join([f'"{letter}"' for letter in "abcdefghijklmnop"])
        self.assertEqual(len(self.instances(f" each [{sixteen}]")), 16)

    def test_what_are_no_keys(self):
        self.assertIsNone(self.instances(' each ["a", "a"]'))
        self.assertIsNone(self.instances(' each ["a", "b"] ++ ["c", "a"]'))
        self.assertIsNone(self.instances(' each if 1 then ["a"] else []'))
        self.assertIsNone(self.instances(' each ["a"] ++ (if net.z.id then [] else [])'))
        nine = ", ".join([f'"{letter}"' for letter in "abcdefghi"])
        eight = ", ".join([f'"{letter}"' for letter in "jklmnopq"])
        self.assertIsNone(self.instances(f" each [{nine}] ++ [{eight}]"))

    def test_what_hangs_on_an_answer(self):
        for how, there, others in (
                (' each if net.z.zone == "eu" then ["a"] else []', ["[a]"], []),
                (' each ["a"] ++ (if net.z.zone == "eu" then ["b"] else ["a"])', ["[a]", "[b]"], None),
                (' count if net.z.zone == "eu" then 2 else 1', ["[0]", "[1]"], ["[0]"]),
                (' count if net.z.zone in ["eu", "us"] then 1 else 13', ["[0]"], None)):
            self.assertEqual(self.instances(how, ((ZONE, "eu"),)), there, how)
            self.assertEqual(self.instances(how, ((ZONE, "de"),)), others, how)
            self.assertEqual(self.instances(how), others, how)

    def test_addresses_of_a_blocked_block(self):
        places = ("box.b", "box.b[0]", "box.b[7]", "box.b[x]", "box.c[0]", "main/box.b[0]")
        entries = [(address, at + 1, Record(size=1, net=1, label=at + 7), Record(id=f"#{at + 1}.id"))
                   for at, address in enumerate(places)]
        state = state_of(KINDS, tuple(entries))
        found = self.found(*box(" count 13"), state=state)
        for address in ("box.b", "box.b[0]", "box.b[7]", "box.b[x]"):
            self.assertEqual((found[address], found.fault_of(address)), ("fault", "evaluate"), address)
            self.assertIsNone(found.fields_of(address))
        for address in ("box.c[0]", "main/box.b[0]"):
            self.assertEqual((found[address], found.fault_of(address)), ("delete", None), address)
        found = self.found(*box(" count 1"), state=state)
        actions = {address: found[address] for address in state.addresses}
        self.assertEqual(actions, {
            "box.b": "delete", "box.b[0]": "change", "box.b[7]": "delete", "box.b[x]": "delete", "box.c[0]": "delete",
            "main/box.b[0]": "delete"})
        found = self.found(*box(""), state=state)
        self.assertEqual([found["box.b"], found["box.b[0]"], found["main/box.b[0]"]], ["change", "delete", "delete"])

    def test_blocked_blocks_are_ascending(self):
        found = self.found(*box(" count 13", "y"), *box(" count 13", "x"), "module m", *[
            f"  {row}" for row in box(' each ["a", "a"]')], "use m w")
        self.assertEqual(found.blocked, ("box.x", "box.y", "w/box.b"))
        self.assertEqual(self.found().blocked, ())


class AddressesTest(unittest.TestCase):
    def test_kinds_of_any_string(self):
        for address, kind in (
                ("box.c", "box"), ("main/box.b[0]", "box"), ("box", "box"), ("a/b/net.z.y", "net"), ("", ""),
                ("a/", ""),
                (".a", ""), ("box.a[b/c].d", "c]")):
            self.assertEqual(kind_of(address), kind, address)

    def test_blocks(self):
        for address, block in (("box.c", "box.c"), ("main/box.b[0]", "main/box.b"), ("box.extra[a]", "box.extra"),
            ("", "")):
            self.assertEqual(block_of(address), block)


class DepthTest(unittest.TestCase):
    def depths(self, *rows):
        sites = read_program(KINDS, lines(*rows)).layout.sites
        return {written: site.depth for written, site in sites.items()}

    def test_the_program_of_the_document(self):
        self.assertEqual(self.depths(*ZONED.split("\n")), {"net.z": 0, "box.c": 1, "box.extra": 1, "main/box.b": 0})

    def test_fields_lets_counts_and_keys(self):
        net = ("resource net a", "  range 1", "resource net b", "  range net.a.id")
        self.assertEqual(self.depths(*net), {"net.a": 0, "net.b": 1})
        for rows in (
                ("resource net c", "  range net.b.range"),
                ("let x [net.a.zone]", "resource net c", "  range x"),
                ("resource net c count len([net.a.id])", "  range 1"),
                ('resource net c each if net.a.zone == "eu" then [] else []', "  range 1")):
            self.assertEqual(self.depths(*net, *rows)["net.c"], 1, rows)
        for rows in (
                ("resource net c", "  range [net.a.id, net.b.id]"),
                ("let x net.b.zone", "let y [x]", "resource net c", "  range y"),
                ("resource net c count len([net.b.id])", "  range net.a.id"),
                ('resource net c each if net.b.zone == "eu" then [] else []', "  range 1")):
            self.assertEqual(self.depths(*net, *rows)["net.c"], 2, rows)

    def test_the_count_of_what_is_named(self):
        rows = ("resource net a", "  range 1", "resource net b count len([net.a.id])", "  range 5",
                "resource net c", "  range net.b[*].range", "resource net d", "  range net.c.range")
        self.assertEqual(self.depths(*rows), {"net.a": 0, "net.b": 1, "net.c": 1, "net.d": 1})

    def test_the_greatest_way_counts(self):
        rows = ["resource net a", "  range 1"]
        for name, before in zip("bcdef", "abcde"):
            rows += [f"resource net {name}", f"  range [net.{before}.id, net.a.id]"]
        rows += ["resource net g", "  range [net.a.id, net.f.id, net.b.id]"]
        self.assertEqual(list(self.depths(*rows).values()), [0, 1, 2, 3, 4, 5, 6])

    def test_inputs_and_outputs_of_uses(self):
        rows = ("module m", "  input x", "  resource net n", "    range x", "  output id net.n.id", "  output x x",
                "resource net a", "  range 1", "use m one", "  x net.a.id", "use m two", "  x one.id",
                "use m other", "  x 1", "resource net c", "  range two.x", "resource net d", "  range two.id")
        self.assertEqual(self.depths(*rows), {
            "net.a": 0, "net.c": 2, "net.d": 3, "one/net.n": 1, "two/net.n": 2, "other/net.n": 0})

    def test_a_module_without_uses_has_no_blocks(self):
        self.assertEqual(self.depths("module m", "  resource net n", "    range 1"), {})


if __name__ == "__main__":
    unittest.main()
