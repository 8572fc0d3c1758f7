import random
import unittest

from laterknown.kinds import read_kinds
from laterknown.programs import Program, read_program, show_program
from samples import KINDS, KINDS_TEXT, NO_STRINGS, ZONED, problem_of

AHEAD = ZONED + "\nlet a 1\nlet b 2\nlet xs [1, 2]\nlet tried "

# One of each form of expression.
EXPRESSIONS = (
    "1", "-1", "0", "1000000", "-1000000", '""', '"a-b-0"', '"if"', "true", "false", "[]", "[1]", '[1, "a", [true]]',
    "a", "home", "net.z.id", "net.z.range", 'box.extra["a"].size', "box.extra[a + 1].id", "box.extra[*].label",
    "main.sizes", "main.sizes[0]", "len(xs)", "len([1] ++ xs)", "xs[0]", "xs[0][1][a]", "[1, 2][0]", "-1[0]",
    "if true then 1 else 2", "if if true then true else false then 1 else 2", "if a then if b then 1 else 2 else 3",
    "if a then 1 else if b then 2 else 3", "not true", "not not true", "not (a or b)", "not (a and b)", "not a == b",
    "(not a) == b", "a == (not b)", "a or b or a", "a or (b or a)", "a and b and a", "a and (b and a)", "a or b and a",
    "(a or b) and a", "a == b", "(a == b) == a", "a == (b == a)", "a != b", "a < b", "a > b", "a in xs",
    "(a in xs) in [true]", "xs ++ xs", "xs ++ xs ++ xs", "xs ++ (xs ++ xs)", "(a == b) ++ xs", "a + b", "a - b + a",
    "a - (b + a)", "a + (b - a) - b", "a - -1", "1 - -1 - -1", "(if a then b else a) + 1", "1 + (if a then b else a)",
    "(if a then xs else xs)[0]", "(a + b)[0]", "(xs ++ xs)[0]", "(not a)[0]", "(a or b)[0]", "(a == b)[0]",
    "xs[if a then 0 else 1]", "xs[not a]", "[if a then b else a, a or b, not a]", "len(if a then xs else xs)",
    "if a or b then a or b else a or b", "(a or b) == (a and b)", "not -1 < 2", '"a"[0]', "true[0]", "len(xs)[0]",
    "net.z.zone[0]", "box.extra[*].size[0]", "box.extra[box.extra[0].size].size", "(xs ++ xs) + 1", "xs ++ a + b",
)


def program(expression):
    return read_program(KINDS, AHEAD + expression)


class ProgramCase(unittest.TestCase):
    def assert_shown(self, text, kinds=KINDS):
        """The program is shown as a text that is read as an equal program."""
        read = read_program(kinds, text)
        shown = show_program(read)
        self.assertIsInstance(shown, str)
        again = read_program(kinds, shown)
        self.assertTrue(again == read, (text, shown))
        self.assertEqual(show_program(again), shown)

    def assert_same(self, one, other):
        one, other = read_program(KINDS, one), read_program(KINDS, other)
        self.assertTrue(one == other)
        self.assertFalse(one != other)
        self.assertEqual(show_program(one), show_program(other))

    def assert_unlike(self, one, other):
        one, other = read_program(KINDS, one), read_program(KINDS, other)
        self.assertFalse(one == other)
        self.assertTrue(one != other)


class ProgramTest(ProgramCase):
    def test_kinds(self):
        self.assertTrue(read_program(KINDS, ZONED).kinds == read_kinds(KINDS_TEXT))
        self.assertTrue(read_program(KINDS, "").kinds == KINDS)

    def test_blocks(self):
        self.assertEqual(read_program(KINDS, ZONED).blocks, ("net.z", "box.c", "box.extra", "main/box.b"))
        self.assertEqual(read_program(KINDS, "").blocks, ())
        self.assertEqual(read_program(KINDS, "let a 1\nmodule m\n  resource net z\n    range 1").blocks, ())

    def test_blocks_of_uses_stand_where_the_use_stands(self):
        text = "\n".join([
            "use m late", "resource net y", "  range 1", "module m", "  resource net z", "    range 1", "  let q 1",
            "  resource net a count 0", "    range 1", "use n x", "resource net a each []", "  range each", "use m early",
            "module n",
        ])
        self.assertEqual(read_program(KINDS, text).blocks, (
            "late/net.z", "late/net.a", "net.y", "net.a", "early/net.z", "early/net.a",
        ))

    def test_properties(self):
        self.assertIsInstance(Program.kinds, property)
        self.assertIsInstance(Program.blocks, property)
        self.assertIsInstance(read_program(KINDS, ZONED), Program)

    def test_the_examples_of_the_document(self):
        text = "resource net z\n  range net.y.range"
        self.assertEqual(problem_of(text, read_kinds("kind net\n  fixed range")), ("Unnamed", 1))
        self.assertEqual(problem_of("let a a", read_kinds("kind net")), ("RingOfNames", ("let a",)))

    def test_arguments_stay_as_they_were(self):
        kinds = read_kinds(KINDS_TEXT)
        read = read_program(kinds, ZONED)
        shown = show_program(read)
        read_program(kinds, ZONED + "\nlet q 1")
        self.assertTrue(kinds == read_kinds(KINDS_TEXT))
        self.assertEqual(show_program(read), shown)
        self.assertEqual(kinds["box"].set_fields, ("size", "net", "label"))


class EqualTest(ProgramCase):
    def test_equal(self):
        self.assert_same(ZONED, ZONED)
        self.assert_same("", "")
        self.assert_same("let a 1 + 2", "let a (1)+((2))")
        self.assert_same("let a [1,2]", "let a [ (1) , (2)]")
        self.assert_same("let a not (true)", "let a not true")
        self.assert_same("let a (if true then (1) else (2))", "let a if   true then 1 else 2")
        self.assert_same("deny net own.range > (5)", "deny net own . range>5")
        self.assert_same("resource net z count (2)\n  range (index)", "resource net z count 2\n  range index")
        self.assert_same('resource net z each (["a"]++["b"])\n  range 1', 'resource net z each ["a"] ++ (["b"])\n  range 1')

    def test_unlike(self):
        self.assert_unlike("let a 1", "let a 2")
        self.assert_unlike("let a 1", "let b 1")
        self.assert_unlike("let a 1", "let a true")
        self.assert_unlike("let a 0", "let a false")
        self.assert_unlike("let a 1", 'let a "1"')
        self.assert_unlike("let a true", 'let a "true"')
        self.assert_unlike("let a 1", "let a [1]")
        self.assert_unlike("let a 1\nlet b 2", "let b 2\nlet a 1")
        self.assert_unlike("let a 1", "let a 1\nlet b 2")
        self.assert_unlike("let a 1", "")
        self.assert_unlike("let a 2 + 1", "let a 1 + 2")
        self.assert_unlike("let a 1 + (2 + 3)", "let a 1 + 2 + 3")
        self.assert_unlike("let a 1 + 2", "let a 1 - 2")
        self.assert_unlike("let a 1 - 1", "let a 1 - -1")
        self.assert_unlike("let a not true", "let a not not true")
        self.assert_unlike("let a true and (true and true)", "let a true and true and true")
        self.assert_unlike("module m\nmodule n\n  let a 1", "module m\n  let a 1\nmodule n")
        self.assert_unlike("module m\n  let a 1", "module m\nlet a 1")
        self.assert_unlike("resource net z\n  range 1", "resource net y\n  range 1")
        self.assert_unlike("resource net z count 1\n  range 1", "resource net z\n  range 1")
        self.assert_unlike("resource net z count 1\n  range 1", "resource net z count 2\n  range 1")
        self.assert_unlike("deny net true", "deny box true")
        size = "resource box c\n  size 1\n  net 2\n  label 3"
        self.assert_unlike(size, "resource box c\n  net 2\n  size 1\n  label 3")

    def test_each_expression_is_unlike_each_other_one(self):
        read = [program(expression) for expression in EXPRESSIONS]
        for at, one in enumerate(read):
            for further, other in enumerate(read):
                self.assertIs(one == other, at == further, (EXPRESSIONS[at], EXPRESSIONS[further]))

    def test_only_the_lines_count(self):
        other = read_kinds(KINDS_TEXT.replace("  held", "  single"))
        self.assertTrue(read_program(KINDS, ZONED) == read_program(other, ZONED))

    def test_equals_nothing_else(self):
        for thing in NO_STRINGS + (ZONED, KINDS, KINDS_TEXT):
            self.assertFalse(read_program(KINDS, ZONED) == thing)
            self.assertTrue(read_program(KINDS, ZONED) != thing)
        self.assertFalse(read_program(KINDS, "") == "")


class ShowTest(ProgramCase):
    def test_programs(self):
        self.assert_shown(ZONED)
        self.assert_shown("")
        self.assertEqual(show_program(program=read_program(KINDS, "")), "")

    def test_each_form_of_expression(self):
        for expression in EXPRESSIONS:
            self.assert_shown(AHEAD + expression)
            for one in (f"({expression})", f"(({expression}))"):
                self.assertTrue(program(one) == program(expression), one)

    def test_each_form_of_expression_in_others(self):
        for expression in EXPRESSIONS:
            for ahead, behind in (("1 + ", ""), ("", " + 1"), ("1 or ", " or 1"), ("not ", ""), ("", "[0]"), ("a == ", ""),
                                  ("", " == a"), ("xs ++ ", " ++ xs"), ("1 - ", " - 1"), ("a and ", " and b")):
                self.assert_shown(f"{AHEAD}{ahead}({expression}){behind}")

    def test_each_line_of_a_module(self):
        self.assert_shown("\n".join([
            "module m", "  input a", "  let b a", "  resource net z count (b)", "    range [index]",
            '  resource net y each ["a"]++[]', "    range each", "  output c net.y[*].id", "use m n", "  a 1+1",
            "deny net not(own.range==n.c)",
        ]))

    def test_the_longest_and_deepest_expressions(self):
        self.assert_shown("let a " + "(" * 20 + "1" + ")" * 20)
        self.assert_shown("let a " + "[" * 20 + "]" * 20)
        self.assert_shown("let a " + "not " * 20 + "1")
        self.assert_shown("let a " + "1" + "+1" * 149)
        self.assert_shown("let a " + "not " + "1" + "+1" * 149)
        self.assert_shown("let a [1]" + "[0]" * 99)
        self.assert_shown("let a " + "if (1) then 1 else " * 10 + "1")

    def test_needless_parentheses_do_not_count_when_shown(self):
        expression = "1" + "+(1)" * 74
        self.assert_shown("let a " + expression)
        self.assertIsNone(problem_of("let a not not not " + expression))


# A tree is (form, told, parts): its whole text has parentheses around each operand.
ROWS = (("if",), ("or",), ("and",), ("not",), ("==", "!=", "<", ">", "in"), ("++",), ("+", "-"), ("item",))
LEAVES = ("1", "-1", "0", '"a"', "true", "a", "home", "net.z.id", "box.extra[*].size", "main.sizes", "[]")


def random_tree(source, depth):
    row = source.choice(ROWS + (("list",), ("len",), ("leaf",)))
    if depth == 0 or row == ("leaf",):
        return ("leaf", source.choice(LEAVES), ())
    form = source.choice(row)
    many = {"if": 3, "not": 1, "len": 1, "list": source.randrange(3)}.get(form, 2)
    return (form, "", tuple([random_tree(source, depth - 1) for _ in range(many)]))


def row_of(form):
    return len(ROWS) if form in ("leaf", "list", "len") else [at for at, row in enumerate(ROWS) if form in row][0]


def needs(form, at, part):
    """Whether the part with this number stands in parentheses."""
    if form in ("list", "len", "if") or (form == "item" and at == 1):
        return False
    row, own = row_of(part), row_of(form)
    if form == "not" or (at == 0 and form not in ROWS[4]):
        return row < own
    return row <= own


def written(tree, parenthesized):
    """The text of a tree; parenthesized tells whether a part stands in parentheses."""
    form, told, parts = tree
    words = []
    for at, part in enumerate(parts):
        word = written(part, parenthesized)
        words.append(f"({word})" if parenthesized(form, at, part[0]) else word)
    if form == "leaf":
        return told
    if form == "if":
        return "if {} then {} else {}".format(*words)
    if form == "item":
        return "{}[{}]".format(*words)
    if form in ("list", "len"):
        return ("[{}]" if form == "list" else "len({})").format(", ".join(words))
    return f"not {words[0]}" if form == "not" else f"{words[0]} {form} {words[1]}"


class RandomTest(ProgramCase):
    def test_parentheses(self):
        source = random.Random(20261118)
        seen = {}
        for _ in range(1500):
            tree = random_tree(source, source.randrange(5))
            whole = written(tree, lambda form, at, part: True)
            least = written(tree, needs)
            some = written(tree, lambda form, at, part: needs(form, at, part) or source.random() < 0.3)
            if problem_of(AHEAD + whole) is None:
                read = program(least)
                self.assertTrue(read == program(whole), (least, whole))
                self.assertTrue(read == program(some), (least, some))
                self.assertEqual(show_program(read), AHEAD + least)
                seen[show_program(read)] = seen.get(show_program(read), whole)
                self.assertEqual(seen[show_program(read)], whole)
        self.assertGreater(len(seen), 500)

    def test_parentheses_that_miss(self):
        source = random.Random(7)
        for _ in range(600):
            tree = random_tree(source, 3)
            whole = written(tree, lambda form, at, part: True)
            fewer = written(tree, lambda form, at, part: needs(form, at, part) and source.random() < 0.5)
            if problem_of(AHEAD + whole) is None and fewer != written(tree, needs):
                self.assertTrue(problem_of(AHEAD + fewer) is not None or not program(fewer) == program(whole),
                                (fewer, whole))


if __name__ == "__main__":
    unittest.main()
