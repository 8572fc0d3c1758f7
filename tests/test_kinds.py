import itertools
import unittest

from laterknown.errors import NoKind
from laterknown.kinds import Kind, Kinds, read_kinds, show_kinds
from samples import KINDS, KINDS_TEXT, NO_STRINGS, RESERVED, outcome_of

NAMES = ["net", "box", "a", "b", "c", "d", "e", "f", "g", "h"]
MARKS = ("held", "single", "token", "guarded")


def lines(*rows):
    return "\n".join(rows)


class ReadKindsTest(unittest.TestCase):
    def assert_bad(self, text, line):
        self.assertEqual(outcome_of(read_kinds, text), ("BadKinds", line), text)

    def assert_good(self, text):
        self.assertEqual(show_kinds(read_kinds(text)), text)

    def test_the_text_of_the_document(self):
        kinds = read_kinds(KINDS_TEXT)
        self.assertEqual(kinds.names, ("net", "box"))
        self.assertEqual(len(kinds), 2)
        net, box = kinds["net"], kinds["box"]
        self.assertEqual((net.name, box.name), ("net", "box"))
        self.assertEqual((net.set_fields, net.fixed_fields), ((), ("range",)))
        self.assertEqual((net.fresh_answers, net.free_answers), (("id",), ("zone",)))
        self.assertEqual((net.held, net.single, net.token, net.guarded), (True, False, False, False))
        self.assertEqual(net.unique_fields, ())
        self.assertEqual((box.set_fields, box.fixed_fields), (("size", "net", "label"), ()))
        self.assertEqual((box.fresh_answers, box.free_answers), (("id",), ()))
        self.assertEqual((box.held, box.single, box.token, box.guarded), (False, False, True, False))
        self.assertEqual(box.unique_fields, ("label",))
        self.assertEqual(show_kinds(kinds), KINDS_TEXT)

    def test_the_example_of_the_document(self):
        self.assert_bad("kind net\n  fixed range\n  unique name", 2)

    def test_the_sequence_of_lines(self):
        kind = read_kinds(lines(
            "kind a", "  free z", "  fixed y", "  unique y", "  set x", "  guarded", "  fixed b", "  unique x",
            "  set c", "  fresh q", "  unique b", "  single",
        ))["a"]
        self.assertEqual(kind.set_fields, ("x", "c"))
        self.assertEqual(kind.fixed_fields, ("y", "b"))
        self.assertEqual(kind.unique_fields, ("y", "x", "b"))
        self.assertEqual((kind.fresh_answers, kind.free_answers), (("q",), ("z",)))
        self.assertEqual((kind.held, kind.single, kind.token, kind.guarded), (False, True, False, True))

    def test_two_answers_of_one_sort(self):
        kind = read_kinds("kind a\n  free z\n  free b")["a"]
        self.assertEqual((kind.fresh_answers, kind.free_answers), ((), ("z", "b")))
        kind = read_kinds("kind a\n  fresh z\n  fresh b")["a"]
        self.assertEqual((kind.fresh_answers, kind.free_answers), (("z", "b"), ()))

    def test_no_string(self):
        for thing in NO_STRINGS:
            self.assert_bad(thing, 0)

    def test_no_kinds(self):
        for text in ("", "\n", " ", "  ", "net", "  set a", "set a"):
            self.assert_bad(text, 0)

    def test_eight_and_nine_kinds(self):
        rows = [f"kind {name}" for name in NAMES]
        self.assert_good(lines(*rows[:8]))
        self.assert_bad(lines(*rows[:9]), 8)
        self.assertEqual(read_kinds(lines(*rows[:8])).names, tuple(NAMES[:8]))

    def test_six_and_seven_fields(self):
        for words in itertools.product(("set", "fixed"), repeat=7):
            rows = ["kind a"] + [f"  {word} {name}" for word, name in zip(words, NAMES)]
            self.assert_good(lines(*rows[:7]))
            self.assert_bad(lines(*rows), 7)

    def test_two_and_three_answers(self):
        for words in itertools.product(("fresh", "free"), repeat=3):
            rows = ["kind a"] + [f"  {word} {name}" for word, name in zip(words, NAMES)]
            self.assert_good(lines(*rows[:3]))
            self.assert_bad(lines(*rows), 3)

    def test_as_much_as_there_may_be(self):
        rows = ["kind a"] + [f"  set {name}" for name in NAMES[:6]] + ["  fresh g", "  free h"]
        rows += [f"  unique {name}" for name in NAMES[:6]] + [f"  {mark}" for mark in MARKS] + ["kind b", "  set a"]
        self.assert_good(lines(*rows))

    def test_names(self):
        for name in ("a", "abcdefghijkl", "set", "fixed", "fresh", "free", "held", "unique", "token", "row" + "s"):
            self.assert_good(f"kind {name}\n  set {name}")
            self.assert_good(f"kind x\n  fresh {name}")
        for name in ["", "abcdefghijklm", "A", "aB", "a1", "a-b", "a_b", "\u00e4", "a.b", "\"a\""] + RESERVED:
            self.assert_bad(f"kind {name}", 0)
            self.assert_bad(f"kind b\n  held\nkind {name}", 2)
            for word in ("set", "fixed", "fresh", "free", "unique"):
                self.assert_bad(f"kind b\n  {word} {name}", 1)

    def test_names_like_kinds(self):
        self.assert_good(lines("kind a", "  set a", "  fresh b", "kind b", "  fixed a", "  free b"))

    def test_names_twice(self):
        self.assert_bad("kind a\nkind b\nkind a", 2)
        for one, other in itertools.product(("set", "fixed", "fresh", "free"), repeat=2):
            self.assert_bad(f"kind a\n  {one} x\n  {other} x", 2)
            self.assert_good(f"kind a\n  {one} x\nkind b\n  {other} x")

    def test_marks_twice(self):
        for mark in MARKS:
            self.assert_good(f"kind a\n  {mark}\nkind b\n  {mark}")
            self.assert_bad(f"kind a\n  {mark}\n  {mark}", 2)
            self.assert_bad(f"kind a\n  {mark}\n  set x\n  {mark}", 3)
            self.assert_bad(f"kind a\n  {mark} x", 1)

    def test_unique(self):
        self.assert_good("kind a\n  set x\n  unique x")
        self.assert_good("kind a\n  fixed x\n  held\n  set y\n  unique x\n  unique y")
        self.assert_bad("kind a\n  set x\n  unique x\n  unique x", 3)
        self.assert_bad("kind a\n  unique x\n  set x", 1)
        self.assert_bad("kind a\n  fresh x\n  unique x", 2)
        self.assert_bad("kind a\n  free x\n  unique x", 2)
        self.assert_bad("kind a\n  set x\n  unique y", 2)
        self.assert_bad("kind a\n  set x\nkind b\n  unique x", 3)
        self.assert_bad("kind a\n  set x\n  unique", 2)

    def test_blanks_and_line_feeds(self):
        good = ["kind a", "  set x", "  held"]
        for at, row in enumerate(good):
            for bad in (
                row + " ", " " + row, row.replace(" a", "  a").replace(" x", "  x") + ("" if at < 2 else " "),
                "", "\t" + row, row + "\t", row + "\r", row.strip() if at else "  " + row, row.upper(),
            ):
                self.assert_bad(lines(*good[:at], bad, *good[at + 1:]), at)
        self.assert_bad(lines(*good) + "\n", 3)
        self.assert_bad(lines(*good) + "\n\nkind b", 3)
        self.assert_bad("\n" + lines(*good), 0)
        self.assert_bad("kind a\n    set x", 1)
        self.assert_bad("kind a\n  set\tx", 1)
        self.assert_bad("kind a\n  ", 1)
        self.assert_bad("kind a\n  set", 1)
        self.assert_bad("kind a\n  set x y", 1)
        self.assert_bad("kind a b", 0)
        self.assert_bad("kind", 0)
        self.assert_bad("kind a\r\nkind b", 0)
        self.assert_bad("kind a\x0bkind b", 0)

    def test_the_first_bad_line(self):
        self.assert_bad("kind a\n  set x\n  bad\nkind a\n  worse", 2)

    def test_other_forms(self):
        for row in ("  kind b", "  count x", "  row", "  fields x", "set x", "held", "  Held", "  held held"):
            self.assert_bad("kind a\n" + row, 1)

    def test_by_name(self):
        self.assertEqual(show_kinds(kinds=read_kinds(text="kind a")), "kind a")


class KindsTest(unittest.TestCase):
    def test_classes(self):
        self.assertIsInstance(KINDS, Kinds)
        self.assertIsInstance(KINDS["net"], Kind)

    def test_no_kind(self):
        for thing in NO_STRINGS + ("", "ne", "nets", "range", "kind net"):
            with self.assertRaises(NoKind) as caught:
                KINDS[thing]
            self.assertIs(caught.exception.value, thing)
            self.assertIs(thing in KINDS, False)
        self.assertIs("net" in KINDS, True)
        self.assertIs("box" in KINDS, True)

    def test_equal(self):
        self.assertTrue(KINDS == read_kinds(KINDS_TEXT))
        self.assertFalse(KINDS != read_kinds(KINDS_TEXT))
        self.assertFalse(KINDS == read_kinds(KINDS_TEXT + "\n  held"))
        self.assertTrue(KINDS != read_kinds(KINDS_TEXT + "\n  held"))
        self.assertFalse(read_kinds("kind a\nkind b") == read_kinds("kind b\nkind a"))

    def test_equals_nothing_else(self):
        for thing in NO_STRINGS + (KINDS_TEXT, KINDS.names):
            self.assertFalse(KINDS == thing)
            self.assertTrue(KINDS != thing)

    def test_equal_calls_return_equal_kinds(self):
        other = read_kinds(KINDS_TEXT)
        self.assertTrue(KINDS["net"] == other["net"])
        self.assertFalse(KINDS["net"] == other["box"])
        self.assertFalse(read_kinds("kind a")["a"] == read_kinds("kind b")["b"])
        self.assertFalse(read_kinds("kind a\n  held")["a"] == read_kinds("kind a\n  single")["a"])
        for thing in NO_STRINGS + ("net", KINDS):
            self.assertFalse(KINDS["net"] == thing)

    def test_properties(self):
        for name in ("name set_fields fixed_fields fresh_answers free_answers unique_fields held single token "
                     "guarded").split(" "):
            self.assertIsInstance(vars(Kind)[name], property)
        self.assertIsInstance(Kinds.names, property)


if __name__ == "__main__":
    unittest.main()
