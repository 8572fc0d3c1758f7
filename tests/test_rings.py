import unittest

from laterknown.errors import RingOfNames
from laterknown.kinds import read_kinds
from laterknown.programs import read_program, shows_ring
from samples import KINDS, NO_STRINGS, ZONED, problem_of


def lines(*rows):
    return "\n".join(rows)


def net(name="z", text="1", how=""):
    return [f"resource net {name}{how}", f"  range {text}"]


class RingsCase(unittest.TestCase):
    def assert_ring(self, nodes, *rows):
        """The text has just one ring: these nodes, begun with any of them."""
        text = lines(*rows)
        with self.assertRaises(RingOfNames) as caught:
            read_program(KINDS, text)
        ring = caught.exception.value
        self.assertIn(ring, [nodes[at:] + nodes[:at] for at in range(len(nodes))])
        self.assertIs(shows_ring(KINDS, text, ring), True)

    def assert_no_ring(self, *rows):
        self.assertIsNone(problem_of(lines(*rows)), rows)


class RootTest(RingsCase):
    def test_lets(self):
        self.assert_ring(("let a",), "let a a")
        self.assert_ring(("let a",), "let a 1 + [2, len(a)][0]")
        self.assert_ring(("let a", "let b"), "let a b", "let b a")
        self.assert_ring(("let a", "let c", "let b"), "let a c", "let b a", "let c b")
        self.assert_ring(("let b", "let c"), "let a b", "let b c", "let c b", "let d a")
        self.assert_no_ring("let a b", "let b c", "let c d + d", "let d 1")

    def test_parts_that_are_not_evaluated(self):
        self.assert_ring(("let a",), "let a if true then 1 else a")
        self.assert_ring(("let a",), "let a false and a")

    def test_fields(self):
        self.assert_ring(("net.z range",), *net("z", "net.z.range"))
        self.assert_ring(("net.z range", "net.y range"), *net("z", "net.y.range"), *net("y", "net.z.range + 1"))
        self.assert_ring(("net.z range", "let a"), *net("z", "a"), "let a net.z.range")

    def test_answers(self):
        self.assert_ring(("net.z answers", "net.z range"), *net("z", "net.z.id"))
        self.assert_ring(("net.z answers", "net.z range"), *net("z", "net.z.zone"))
        self.assert_ring(("net.z range", "net.y answers", "net.y range"), *net("z", "net.y.id"),
                         *net("y", "net.z.range"))
        self.assert_ring(("net.z answers", "net.z range", "net.y answers", "net.y range"), *net("z", "net.y.id"),
                         *net("y", "net.z.id"))

    def test_one_field_by_another(self):
        self.assert_no_ring("resource box c", "  size 1", "  net box.c.size", "  label box.c.net")
        self.assert_ring(("box.c size", "box.c answers"), "resource box c", "  size box.c.id", "  net 1", "  label 1")

    def test_counts(self):
        self.assert_ring(("net.z count", "let a"), *net("z", "1", " count a"), "let a net.z[0].range")
        self.assert_ring(("net.z count",), *net("z", "1", " count net.z[0].range"))
        self.assert_ring(("net.z count",), *net("z", "1", " count len(net.z[*].range)"))
        self.assert_no_ring(*net("z", "index", " count 2"))
        self.assert_no_ring(*net("z", "1", " count net.y.range"), *net("y", "1"))

    def test_naming_a_field_leads_to_the_count(self):
        rows = [*net("z", "1", " count a"), "let a b", "let b net.z[0].range"]
        self.assert_ring(("net.z count", "let a", "let b"), *rows)
        self.assert_no_ring(*net("z", "1", " count a"), "let a 1", "let b net.z[0].range")

    def test_naming_an_answer_leads_to_the_count(self):
        found = problem_of(lines(*net("z", "1", " count a"), "let a len(net.z[*].id)"))
        self.assertEqual(found[0], "RingOfNames")

    def test_keys(self):
        keys = ' each if net.z["a"].range == 1 then ["a"] else []'
        self.assert_ring(("net.z each",), *net("z", "1", keys))
        self.assert_ring(("net.z each", "let a"), *net("z", "1", " each a"), 'let a if net.z["x"].range == 1 then [] else []')
        self.assert_no_ring(*net("z", "each", ' each ["a"]'))

    def test_an_index_leads_on(self):
        self.assert_ring(("let a",), *net("z", "1", " count 2"), "let a net.z[a].range")
        self.assert_ring(("net.z range",), *net("z", "net.y[net.z[0].range].range", " count 2"), *net("y", "1", " count 2"))

    def test_one_instance_by_another_is_a_ring(self):
        self.assert_ring(("net.z range",), *net("z", "if index == 0 then 1 else net.z[index - 1].range", " count 2"))

    def test_a_field_does_not_lead_to_its_own_count(self):
        self.assert_no_ring(*net("z", "1", " count a"), "let a 2")
        self.assert_no_ring("let a 2", *net("z", "index", " count a"), *net("y", "net.z[0].range"))
        self.assert_no_ring("resource box c count b", "  size 1", "  net 1", "  label 1", "let b 1")

    def test_rules_are_no_nodes(self):
        self.assert_no_ring(*net("z"), "deny net own.range == net.z.range and net.z.id == net.z.zone")


class UsesTest(RingsCase):
    MODULE = ["module m", "  input a", "  output b a"]

    def test_inputs_and_outputs(self):
        self.assert_ring(("x/input a", "x/output b"), *self.MODULE, "use m x", "  a x.b")
        self.assert_ring(("x/input a", "y/output b", "y/input a", "x/output b"), *self.MODULE, "use m x", "  a y.b",
                         "use m y", "  a x.b")
        self.assert_ring(("x/input a", "let q", "x/output b"), *self.MODULE, "use m x", "  a q", "let q x.b")
        self.assert_no_ring(*self.MODULE, "use m x", "  a y.b", "use m y", "  a 1")

    def test_an_input_that_is_not_named(self):
        self.assert_no_ring("module m", "  input a", "  output b 1", "use m x", "  a x.b")

    def test_lets_in_modules(self):
        module = ["module m", "  let a b", "  let b a"]
        self.assert_ring(("x/let a", "x/let b"), *module, "use m x")
        self.assert_no_ring(*module)
        self.assert_no_ring(*module, "module n", "  let c 1", "use n x")

    def test_blocks_in_modules(self):
        module = ["module m", "  resource net z", "    range net.z.id"]
        self.assert_ring(("x/net.z range", "x/net.z answers"), *module, "use m x")
        self.assert_no_ring(*module)
        module = ["module m", "  resource net z count net.z[0].range", "    range 1"]
        self.assert_ring(("x/net.z count",), *module, "use m x")
        self.assert_no_ring(*module)
        module = ["module m", '  resource net z each if net.z["a"].range == 1 then [] else []', "    range 1"]
        self.assert_ring(("x/net.z each",), *module, "use m x")
        self.assert_no_ring(*module)

    def test_through_a_use(self):
        rows = ["module m", "  input a", "  resource net z", "    range a", "  let q net.z.id", "  output b [q]",
                "use m x", "  a w", "let w len(x.b)"]
        self.assert_ring(("x/input a", "let w", "x/output b", "x/let q", "x/net.z answers", "x/net.z range"), *rows)
        self.assert_no_ring(*rows[:-1], "let w 1")

    def test_each_use_has_nodes_of_its_own(self):
        rows = [*self.MODULE, "use m x", "  a 1", "use m y", "  a x.b", "use m z", "  a y.b", "use m w", "  a z.b"]
        self.assert_no_ring(*rows)
        self.assert_ring(("x/input a", "w/output b", "w/input a", "z/output b", "z/input a", "y/output b", "y/input a",
                          "x/output b"), *[row.replace("a 1", "a w.b") for row in rows])

    def test_the_root_and_a_module_have_names_of_their_own(self):
        self.assert_no_ring("let a x.b", "module m", "  let a 1", "  output b a", "use m x")


class ShowsRingTest(unittest.TestCase):
    TEXT = lines("let a b", "let b c + a", "let c a", "let d d", "let e a", "let f 1", "module m", "  input i",
                 "  output o i", "  let w w", "use m x", "  i x.o", "module n", "  let v v", *net("z", "net.z.id"))

    def shown(self, value):
        return shows_ring(KINDS, self.TEXT, value)

    def test_the_ring_that_is_raised(self):
        for text in (self.TEXT, "let a a", lines("let a b", "let b a")):
            found = problem_of(text)
            self.assertEqual(found[0], "RingOfNames")
            self.assertIsInstance(found[1], tuple)
            self.assertIs(shows_ring(KINDS, text, found[1]), True)
            self.assertEqual(problem_of(text), found)

    def test_rings(self):
        for ring in (("let a", "let b"), ("let b", "let a"), ("let a", "let b", "let c"), ("let b", "let c", "let a"),
                     ("let c", "let a", "let b"), ("let d",), ("x/input i", "x/output o"), ("x/output o", "x/input i"),
                     ("x/let w",), ("net.z range", "net.z answers"), ("net.z answers", "net.z range")):
            self.assertIs(self.shown(ring), True, ring)

    def test_a_ring_that_is_gone_round_twice(self):
        self.assertIs(self.shown(("let d", "let d")), True)
        self.assertIs(self.shown(("let a", "let b", "let a", "let b", "let c")), True)

    def test_tuples_that_are_no_rings(self):
        for value in ((), ("let a",), ("let a", "let c", "let b"), ("let c", "let b", "let a"), ("let a", "let d"),
                      ("let e", "let a", "let b"), ("let f",), ("let v",), ("n/let v",), ("m/let w",), ("let w",),
                      ("d",), ("let d ",), ("let  d",), ("let none",), ("net.z range",), ("net.z answers",),
                      ("x/input i",), ("", ""), ("let a", "let b", ""), ("let a", "let b", 1), ("let a", None),
                      (("let d",),), ("net.z id",), ("net.z count",), ("x/output none", "x/input i"),
                      ("let d", ["let d"]), ([], {}), (["let d"],), (1,), (True,), (None,)):
            self.assertIs(self.shown(value), False, value)

    def test_any_value(self):
        for thing in NO_STRINGS + ("", "let d", ["let d"], {"let d": True}, ["let a", "let b"]):
            self.assertIs(self.shown(thing), False)

    def test_by_name(self):
        self.assertIs(shows_ring(kinds=KINDS, text=self.TEXT, value=("let d",)), True)


class WaysTest(RingsCase):
    def test_the_program_of_the_document(self):
        self.assert_no_ring(ZONED)

    def test_a_long_ring(self):
        names = [one + other for one in "abcdef" for other in "wxyz"]
        rows = [f"let {name} {further}" for name, further in zip(names, names[1:] + names[:1])]
        self.assert_ring(tuple([f"let {name}" for name in names]), *rows)
        self.assert_no_ring(*rows[:-1], f"let {names[-1]} 1")

    def test_kinds_without_answers(self):
        kinds = read_kinds("kind a\n  set x\n  set y")
        self.assertIsNone(problem_of("resource a b\n  x a.b.y\n  y 1", kinds))
        self.assertEqual(problem_of("resource a b\n  x a.b.x\n  y 1", kinds), ("RingOfNames", ("a.b x",)))


if __name__ == "__main__":
    unittest.main()
