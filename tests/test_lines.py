import unittest

from laterknown.kinds import read_kinds
from laterknown.programs import read_program
from samples import KINDS, NO_STRINGS, RESERVED, ZONED, problem_of

BARE = read_kinds("kind dot")
ZONED_LINES = ZONED.split("\n")
# Names of one letter and of two, as many as are needed; none of them is a reserved word.
NAMES = [one + other for one in "abcdefgh" for other in "xyzw"]


def lines(*rows):
    return "\n".join(rows)


class LinesCase(unittest.TestCase):
    def assert_good(self, text, kinds=KINDS):
        self.assertIsNone(problem_of(text, kinds), text)

    def assert_bad(self, text, line, kinds=KINDS):
        self.assertEqual(problem_of(text, kinds), ("BadProgram", line), text)

    def assert_read(self, text):
        """Nothing is wrong with the forms and the places of the lines."""
        found = problem_of(text)
        self.assertTrue(found is None or found[0] != "BadProgram", (text, found))


class FormsTest(LinesCase):
    def test_the_program_of_the_document(self):
        self.assert_good(ZONED)

    def test_no_string(self):
        for thing in NO_STRINGS:
            self.assert_bad(thing, 0)

    def test_no_lines(self):
        self.assert_good("")
        self.assertEqual(read_program(KINDS, "").blocks, ())

    def test_arguments_by_name(self):
        self.assertEqual(read_program(kinds=KINDS, text=ZONED), read_program(KINDS, ZONED))

    def test_names_that_are_none(self):
        for name in ["A", "aB", "a1", "1", "a-b", "a_b", "a.b", "\u00e4", "abcdefghijklm", "", "\"a\"", "a,"] + RESERVED:
            for row in (f"let {name} 1", f"resource {name} z", f"resource net {name}", f"module {name}",
                        f"use {name} x", f"use pair {name}", f"deny {name} true"):
                self.assert_bad(row, 0)
                self.assert_bad(lines("let q 1", row, "let"), 1)
            for row in (f"  input {name}", f"  output {name} 1", f"  let {name} 1", f"  resource net {name}"):
                self.assert_bad(lines("module m", row), 1)
            self.assert_bad(lines("resource net z", f"  {name} 1"), 1)
            self.assert_bad(lines("use pair main", f"  {name} 1"), 1)
            self.assert_bad(lines("module m", "  resource net z", f"    {name} 1"), 2)

    def test_names_that_are_some(self):
        for name in ("a", "abcdefghijkl", "set", "fixed", "fresh", "free", "held", "single", "token", "unique"):
            self.assert_good(f"let {name} 1")
            self.assert_good(lines(f"module {name}", f"  input {name}", f"  output {name} {name}",
                                   f"use {name} {name}", f"  {name} 1"))
            self.assert_good(lines(f"resource net {name}", "  range 1"))

    def test_words_too_few_and_too_many(self):
        for row in ("let", "let a", "resource", "resource net", "resource net z 1", "resource net z count",
                    "resource net z each", "resource net z count count", "module", "module m 1", "module m n",
                    "use", "use m", "use m n 1", "use m n o", "deny", "deny net", "deny true", "a", "1", "let a,"):
            self.assert_bad(row, 0)
        for row in ("  input", "  input a 1", "  input a b", "  output", "  output a", "  let", "  let a"):
            self.assert_bad(lines("module m", row), 1)
        self.assert_bad(lines("resource net z", "  range"), 1)
        self.assert_bad(lines("use m x", "  top"), 1)

    def test_count_and_each(self):
        self.assert_good(lines("resource net z count 2", "  range index"))
        self.assert_good(lines('resource net z each ["a"]', "  range each"))
        for row in ("resource net z count  2", "resource net z  count 2", 'resource net z each["a"]',
                    "resource net z count(2)", "resource net z many 2", "resource net z Count 2",
                    "resource net z count 2 each []", "resource net z count 2,"):
            self.assert_bad(row, 0)

    def test_other_words(self):
        for row in ("kind net", "Let a 1", "lets a 1", "input a", "output a 1", "size 1", "row 1", "if a 1", "-", "#",
                    "range 9", "count 1", "allow net true"):
            self.assert_bad(row, 0)
            self.assert_bad(lines("let q 1", row), 1)

    def test_blanks(self):
        for row in ("let  a 1", "let a  1", " let a 1", "let a 1 ", "\tlet a 1", "let\ta 1", "let a\t1", "let a 1\r",
                    "resource  net z", "resource net  z", "resource net z ", "module  m", "module m ", "use  m n",
                    "use m  n", "use m n ", "deny  net true", "deny net  true", "deny net true ", "let a(1)",
                    "let a[1]", "deny net(true)", "let a\u00a01"):
            self.assert_bad(row, 0)
        for row in ("  input  a", "  input a ", "  output  a 1", "  output a  1", "  output a 1 ", "  let  a 1"):
            self.assert_bad(lines("module m", row), 1)
        for row in ("  range  1", "  range 1 ", "  range(1)", "  range\t1"):
            self.assert_bad(lines("resource net z", row), 1)
        self.assert_good("let a 1  +  2")

    def test_empty_lines(self):
        self.assert_bad("\n", 0)
        self.assert_bad(" ", 0)
        self.assert_bad("let a 1\n", 1)
        self.assert_bad("\nlet a 1", 0)
        self.assert_bad("let a 1\n\nlet b 1", 1)
        self.assert_bad("resource net z\n  range 1\n  ", 2)
        self.assert_bad("let a 1\r\nlet b 1", 0)
        self.assert_bad("let a 1\x0blet b 1", 0)
        self.assert_bad("let a 1\u2028let b 1", 0)

    def test_the_first_bad_line(self):
        self.assert_bad(lines("let a 1", "let b 01", "bad", "let c  1"), 1)
        self.assert_bad(lines("let a 1", "let b 1", "", "bad"), 2)

    def test_bad_expressions_in_each_form(self):
        for row, ahead in (("let a ", ()), ("resource net z count ", ()), ("resource net z each ", ()),
                           ("deny net ", ()), ("  range ", ("resource net z",)), ("  top ", ("use m x",)),
                           ("  let a ", ("module m",)), ("  output a ", ("module m",)),
                           ("  resource net z count ", ("module m",)), ("    range ", ("module m", "  resource net z"))):
            for expression in ("01", "1 +", "a b", "1000001", '"A"', "-0", "(1", "1 == 2 == 3", "(" * 21 + "1" + ")" * 21,
                               "1" + "+1" * 150):
                self.assert_bad(lines(*ahead, row + expression), len(ahead))
            for expression in ("1", "a", "1000000", "-1", "(" * 20 + "1" + ")" * 20, "1" + "+1" * 149 + ""):
                self.assert_read(lines(*ahead, row + expression))


class PlacesTest(LinesCase):
    def test_each_form_in_the_root(self):
        for row in ("let a 1", "resource net z", "module m", "use m n", "deny net true"):
            self.assert_read(row)
        for row in ("input a", "output a 1", "range 1"):
            self.assert_bad(row, 0)

    def test_each_form_in_a_module(self):
        for row in ("  input a", "  let a 1", "  resource net z", "  output a 1", "  resource net z count 2"):
            for ahead in (("module m",), ("module m", "  input b"), ("module m", "  let b 1"),
                          ("module m", "  output b 1"), ("module m", "  resource net y"),
                          ("module m", "  resource net y", "    range 1")):
                self.assert_read(lines(*ahead, row))
        for row in ("  module n", "  use n x", "  deny net true", "  range 1", "  top 1"):
            for ahead in (("module m",), ("module m", "  resource net y"), ("module m", "  let b 1")):
                self.assert_bad(lines(*ahead, row), len(ahead))

    def test_what_stands_below_a_block(self):
        for ahead in (("resource net z",), ("resource net z", "  range 1"), ("let a 1", "resource net z count 2")):
            self.assert_read(lines(*ahead, "  size 1"))
            for row in ("  input a", "  let a 1", "  output a 1", "  resource net y", "  module m", "  use m n",
                        "  deny net true", "    size 1", " size 1", "   size 1"):
                self.assert_bad(lines(*ahead, row), len(ahead))

    def test_what_stands_below_a_use(self):
        for ahead in (("use m x",), ("use m x", "  top 1")):
            self.assert_read(lines(*ahead, "  range 1"))
            for row in ("  input a", "  let a 1", "  output a 1", "  resource net y", "    top 1", "  use m n"):
                self.assert_bad(lines(*ahead, row), len(ahead))

    def test_nothing_stands_below_other_lines(self):
        for row in ("let a 1", "deny net true"):
            for below in ("range 1", "input a", "let b 1", "resource net y", "module n", "output b 1", "deny net true"):
                self.assert_bad(lines(row, "  " + below), 1)
                self.assert_bad(lines(row, "    " + below), 1)
        for row in ("  input a", "  let a 1", "  output a 1"):
            for below in ("range 1", "input b", "let b 1", "resource net y", "output b 1"):
                self.assert_bad(lines("module m", row, "    " + below), 2)
                self.assert_bad(lines("module m", row, "      " + below), 2)
        self.assert_bad(lines("resource net z", "  range 1", "    range 1"), 2)
        self.assert_bad(lines("module m", "    range 1"), 1)

    def test_below_a_block_in_a_module(self):
        ahead = ("module m", "  resource net z")
        self.assert_read(lines(*ahead, "    range 1"))
        self.assert_read(lines(*ahead, "    range 1", "    size 1", "  input a", "  resource box c", "    size 2"))
        for row in ("      range 1", "   range 1", "     range 1", "  range 1", "range 1", "    input a", "    let a 1",
                    "    resource net y"):
            self.assert_bad(lines(*ahead, row), 2)
        self.assert_bad(lines(*ahead, "    range 1", "  input a", "    range 1"), 4)

    def test_back_in_the_root(self):
        for ahead in (("module m", "  input a"), ("module m", "  resource net z", "    range 1"), ("use m x", "  a 1"),
                      ("resource net z", "  range 1"), ("module m",)):
            self.assert_read(lines(*ahead, "let q 1"))
            self.assert_read(lines(*ahead, "resource net q", "  range 1"))
            self.assert_bad(lines(*ahead, "let q 1", "  range 1"), len(ahead) + 1)

    def test_the_first_line_is_not_deeper(self):
        for row in ("  let a 1", "  range 1", "    range 1", "  input a", " let a 1"):
            self.assert_bad(row, 0)

    def test_each_line_of_the_document_at_other_depths(self):
        for at, row in enumerate(ZONED_LINES):
            for blanks in (1, 3, 5, 6):
                bad = " " * blanks + row.strip()
                self.assert_bad(lines(*ZONED_LINES[:at], bad, *ZONED_LINES[at + 1:]), at)


class BoundsTest(LinesCase):
    def assert_bound(self, most, rows_of):
        """As many as there may be are good, and the first line of one more is bad."""
        names = NAMES[:most + 1]
        good = [row for name in names[:most] for row in rows_of(name)]
        more = rows_of(names[most])
        self.assert_good(lines(*good), BARE)
        self.assert_bad(lines(*good, *more), len(good) + len(more) - 1, BARE)

    def test_in_the_root(self):
        self.assert_bound(12, lambda name: [f"resource dot {name}"])
        self.assert_bound(24, lambda name: [f"let {name} 1"])

    def test_in_one_module(self):
        for most, form, behind in ((12, "resource dot", ""), (24, "let", " 1"), (12, "input", ""), (12, "output", " 1")):
            good = ["module m"] + [f"  {form} {name}{behind}" for name in NAMES[:most]]
            self.assert_good(lines(*good), BARE)
            self.assert_bad(lines(*good, f"  {form} {NAMES[most]}{behind}"), most + 1, BARE)

    def test_in_all_modules_and_the_root_together(self):
        self.assert_bound(12, lambda name: [f"module {name}", "  input a"])
        self.assert_bound(12, lambda name: [f"module {name}", "  output a 1"])
        self.assert_bound(12, lambda name: [f"module {name}", "  resource dot a"])
        self.assert_bound(24, lambda name: [f"module {name}", "  let a 1"])
        root = [f"let {name} 1" for name in NAMES[:23]]
        self.assert_good(lines(*root, "module m", "  let a 1"), BARE)
        self.assert_bad(lines(*root, "module m", "  let a 1", "  let b 1"), 25, BARE)
        self.assert_bad(lines("module m", "  let a 1", *root, "let q 1"), 25, BARE)

    def test_uses(self):
        four = ["module m"] + [f"use m {name}" for name in NAMES[:4]]
        self.assert_good(lines(*four), BARE)
        self.assert_bad(lines(*four, f"use m {NAMES[4]}"), 5, BARE)
        self.assert_bad(lines(*four, "use m m"), 5, BARE)

    def test_other_lines_have_no_bound(self):
        self.assert_good(lines(*[f"module {name}" for name in NAMES]), BARE)
        self.assert_good(lines(*["deny dot true"] * 100), BARE)

    def test_a_bad_line_ahead_of_one_too_many(self):
        many = [f"let {name} 1" for name in NAMES[:24]]
        self.assert_bad(lines(*many[:3], "let", *many[4:], "let q 1", "let r 1"), 3, BARE)
        self.assert_bad(lines(*many, "let q 1", "let"), 24, BARE)


if __name__ == "__main__":
    unittest.main()
