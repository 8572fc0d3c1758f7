import unittest

from laterknown.programs import read_program
from samples import KINDS, RESERVED, ZONED, problem_of

# The lines of ZONED stand ahead, so that its names may be used.
AHEAD = ZONED + "\nlet a 1\nlet b 2\nlet xs [1, 2]\nlet tried "
LINE = AHEAD.count("\n")


def problem(expression):
    return problem_of(AHEAD + expression)


def program(expression):
    return read_program(KINDS, AHEAD + expression)


class ExpressionCase(unittest.TestCase):
    def assert_good(self, *expressions):
        for expression in expressions:
            self.assertIsNone(problem(expression), expression)

    def assert_bad(self, *expressions):
        for expression in expressions:
            self.assertEqual(problem(expression), ("BadProgram", LINE), expression)

    def assert_unnamed(self, *expressions):
        for expression in expressions:
            self.assertEqual(problem(expression), ("Unnamed", LINE), expression)

    def assert_same(self, one, other):
        self.assertTrue(program(one) == program(other), (one, other))

    def assert_unlike(self, one, other):
        self.assertFalse(program(one) == program(other), (one, other))


class TokensTest(ExpressionCase):
    def test_integers(self):
        self.assert_good("0", "1", "9", "10", "1000000", "-1", "-10", "-1000000", "100")
        self.assert_bad("00", "01", "-01", "-0", "-00", "1000001", "-1000001", "0000000", "10000000", "1" * 40)
        self.assert_bad("9" * 5000, "-" + "9" * 5000)
        self.assert_bad("1.5", "1_0", "0x1", "1e3", "+1", "--1", "- 1", "-", "1-", "-a", "-(1)", "\u0661")

    def test_the_minus_of_an_integer(self):
        self.assert_same("1 -1", "1 - 1")
        self.assert_same("1-1", "1 - 1")
        self.assert_same("1--1", "1 - (-1)")
        self.assert_same("1 - -1", "1 - (-1)")
        self.assert_same("a -1 -2", "(a - 1) - 2")
        self.assert_same("a<-1", "a < (-1)")
        self.assert_same("[-1,-2]", "[(-1), (-2)]")
        self.assert_good("1 -0", "a - 0", "1 -1000000", "1 +-1", "1 ++-1", "not -1", "-1[0]", "xs[-1]", "len(-1)")
        self.assert_bad("1 - - 1", "1 - -0", "1 - -01", "1 -1000001", "1 -01", "1 -- 1", "[- 1]")

    def test_texts(self):
        self.assert_good('""', '"a"', '"a-b-9"', '"-"', '"0"', '"' + "a" * 20 + '"', '"if"', '"true"')
        self.assert_bad('"' + "a" * 21 + '"', '"A"', '"a b"', '"a.b"', '"#a"', '"?a"', '"a', 'a"', '"', "'a'")
        self.assert_bad('"\u00e4"', '"a\\"', '"a\t"', '"a""b"', '"a" "b"', '"[*]"', '" "')

    def test_each_character_in_a_text(self):
        for code in range(128):
            sign = chr(code)
            is_good = sign in "abcdefghijklmnopqrstuvwxyz0123456789-"
            if sign not in '"\n':
                self.assertEqual(problem(f'"{sign}"') is None, is_good, repr(sign))

    def test_bools_and_names(self):
        self.assert_good("true", "false", "a", "home", "[true, false]")
        self.assert_bad("True", "FALSE", "a1", "1a", "a_b", "a b", "a$", "a;", "a?", "a:", "{a}", "a!", "a=b", "a&b")

    def test_long_names(self):
        self.assert_unnamed("abcdefghijkl")
        self.assert_bad("abcdefghijklm")
        self.assert_unnamed("net.abcdefghijkl.id", "net.z.abcdefghijkl", "main.abcdefghijkl", "abcdefghijkl.z.id")
        self.assert_bad("net.abcdefghijklm.id", "net.z.abcdefghijklm", "main.abcdefghijklm", "abcdefghijklm.z.id")

    def test_reserved_words(self):
        for word in RESERVED:
            self.assert_bad(f"{word}.z.id", f"net.{word}.id", f"net.z.{word}", f"main.{word}", f"net.z[0].{word}")
            self.assert_bad(f"net.{word}[*].id", f"own.{word}", f"a {word}", f"{word} {word}")
            if word not in ("true", "false", "index", "each"):
                self.assert_bad(word, f"[{word}]", f"({word})", f"a + {word}", f"xs[{word}]")

    def test_blanks_between_tokens(self):
        for blank in (" ", "  ", " " * 40):
            tokens = ["if", "net", ".", "z", ".", "zone", "==", '"eu"', "then", "len", "(", "xs", ")", "else", "box",
                      ".", "extra", "[", '"a"', "]", ".", "size", "+", "-1"]
            self.assert_same(blank.join(tokens), 'if net.z.zone == "eu" then len(xs) else box.extra["a"].size + -1')
        self.assert_same("main . sizes [ 0 ]", "main.sizes[0]")
        self.assert_same("box . extra [ * ] . size", "box.extra[*].size")
        self.assert_same("[  ]", "[]")
        self.assert_same("[1,2]", "[ 1 , 2 ]")

    def test_no_blanks_between_tokens(self):
        self.assert_same("if 1<2then(3)else[4]", "if 1 < 2 then 3 else [4]")
        self.assert_same('1in[1]or"a"==home', '1 in [1] or "a" == home')
        self.assert_same("xs++xs", "xs ++ xs")
        self.assert_same("not(a)", "not a")
        self.assert_unnamed("nota", "lenxs", "aorb")
        self.assert_bad("ifa then b else a", "len xs", "a orb")

    def test_signs_are_whole(self):
        self.assert_bad("a = = b", "a ! = b", "a + + b", "a =! b", "a <= b", "a >= b", "a <> b", "a =< b", "a === b")
        self.assert_bad("a +++ b", "a ** b", "a * b", "a / b", "a % b", "a == = b", "a , b", "a . ", "a..b")

    def test_blanks_at_the_ends(self):
        self.assert_bad(" 1", "1 ", "  1", "1  ", " ", "")

    def test_other_blanks(self):
        for blank in "\t\r\x0b\x0c\u00a0":
            self.assert_bad(f"1{blank}+ 1", f"1{blank}", f"{blank}1")

    def test_three_hundred_tokens(self):
        def sum_of(many):
            # Each of these is a number, with a sign ahead of it but for the first one.
            return " + ".join(["1"] * many)

        self.assert_good(sum_of(150))
        self.assert_good("not " + sum_of(150))
        self.assert_bad(sum_of(151))
        self.assert_bad("not not " + sum_of(150))

    def test_what_a_token_is(self):
        def padded(expression, tokens):
            # What is ahead has two tokens for each 1: the whole expression has 300.
            ones, rest = divmod(300 - tokens, 2)
            return "not " * rest + "1 + " * ones + expression

        samples = (("1", 1), ("-1", 2), ("1000000", 1), ('"abc"', 1), ('""', 1), ("a", 1), ("true", 1), ("[]", 2),
                   ("[1, 2]", 5), ("net.z.id", 5), ("main.sizes", 3), ('box.extra["a"].size', 8),
                   ("box.extra[*].size", 8), ("len(xs)", 4), ("xs[0]", 4), ("(a)", 3), ("1 ++ a", 3), ("1-1", 3),
                   ("1 != 2", 3), ("1 - -1", 4))
        for expression, tokens in samples:
            self.assertIsNone(problem(padded(expression, tokens)), expression)
            if tokens % 2 == 0:
                self.assertEqual(problem("not " + padded(expression, tokens)), ("BadProgram", LINE), expression)
            else:
                self.assertEqual(problem("not not " + padded(expression, tokens)[4:] + " + 1"),
                                 ("BadProgram", LINE), expression)

    def test_very_many_tokens(self):
        for sign in ("(", "[", "len(", "not ", "xs[", "if ", "if true then ", "if true then 1 else ", "- ", "-"):
            self.assert_bad(sign * 1200, sign * 1200 + "1")
        self.assert_bad("(" * 1200 + "1" + ")" * 1200, "[" * 1200 + "]" * 1200, "1" + " + 1" * 2000)


class FormsTest(ExpressionCase):
    def test_if(self):
        self.assert_good("if true then 1 else 2", "if if true then true else false then 1 else 2")
        self.assert_good("if a then if b then 1 else 2 else 3", "if a then 1 else if b then 2 else 3")
        self.assert_bad("if true then 1", "if true else 1", "if then 1 else 2", "if true then else 2", "then 1 else 2")
        self.assert_bad("if true then 1 else", "if true 1 else 2", "if", "if true", "if true then 1 else 2 else 3")

    def test_if_needs_parentheses(self):
        for sign in ("or", "and", "==", "!=", "<", ">", "in", "++", "+", "-"):
            self.assert_bad(f"a {sign} if true then 1 else 2")
            self.assert_good(f"a {sign} (if true then 1 else 2)")
            self.assert_same(f"if true then 1 else 2 {sign} 3", f"if true then 1 else (2 {sign} 3)")
        self.assert_bad("not if true then 1 else 2")
        self.assert_good("not (if true then 1 else 2)", "[if true then 1 else 2, 3]", "len(if true then xs else xs)")
        self.assert_good("xs[if true then 1 else 2]", "(if true then xs else xs)[0]")
        self.assert_same("if true then xs else xs[0]", "if true then xs else (xs[0])")

    def test_operators_are_of_rows(self):
        rows = (("or",), ("and",), ("==", "!=", "<", ">", "in"), ("++",), ("+", "-"))
        for at, looser in enumerate(rows):
            for tighter in rows[at + 1:]:
                for sign in looser:
                    for other in tighter:
                        self.assert_same(f"1 {sign} 2 {other} 3", f"1 {sign} (2 {other} 3)")
                        self.assert_same(f"1 {other} 2 {sign} 3", f"(1 {other} 2) {sign} 3")
                        self.assert_unlike(f"1 {sign} 2 {other} 3", f"(1 {sign} 2) {other} 3")
                        self.assert_unlike(f"1 {other} 2 {sign} 3", f"1 {other} (2 {sign} 3)")

    def test_operators_associate_to_the_left(self):
        for row in (("or",), ("and",), ("++",), ("+", "-")):
            for sign in row:
                for other in row:
                    self.assert_same(f"1 {sign} 2 {other} 3", f"(1 {sign} 2) {other} 3")
                    self.assert_unlike(f"1 {sign} 2 {other} 3", f"1 {sign} (2 {other} 3)")
                    self.assert_same(f"1 {sign} 2 {other} 3 {sign} 4", f"((1 {sign} 2) {other} 3) {sign} 4")
                    self.assert_unlike(f"1 {sign} 2 {other} 3 {sign} 4", f"(1 {sign} 2) {other} (3 {sign} 4)")
        self.assert_same("xs[0][1]", "(xs[0])[1]")
        self.assert_unlike("xs[0][1]", "xs[0[1]]")

    def test_comparisons_beside_one_another(self):
        signs = ("==", "!=", "<", ">", "in")
        for sign in signs:
            for other in signs:
                self.assert_bad(f"1 {sign} 2 {other} 3")
                self.assert_good(f"(1 {sign} 2) {other} 3", f"1 {sign} (2 {other} 3)")
                self.assert_unlike(f"(1 {sign} 2) {other} 3", f"1 {sign} (2 {other} 3)")
                self.assert_good(f"1 {sign} 2 and 3 {other} 4", f"1 {sign} 2 or 3 {other} 4")

    def test_not(self):
        self.assert_good("not true", "not not true", "not not not true", "true and not false", "true or not false")
        self.assert_same("not not a", "not (not a)")
        for sign in ("==", "!=", "<", ">", "in", "++", "+", "-"):
            self.assert_same(f"not a {sign} b", f"not (a {sign} b)")
            self.assert_unlike(f"not a {sign} b", f"(not a) {sign} b")
            self.assert_bad(f"a {sign} not b")
            self.assert_good(f"a {sign} (not b)")
        for sign in ("or", "and"):
            self.assert_same(f"not a {sign} b", f"(not a) {sign} b")
            self.assert_unlike(f"not a {sign} b", f"not (a {sign} b)")
            self.assert_same(f"a {sign} not b", f"a {sign} (not b)")
        self.assert_same("not xs[0]", "not (xs[0])")
        self.assert_unlike("not xs[0]", "(not xs)[0]")
        self.assert_bad("not", "a not b", "a not in b", "not and a", "not()")

    def test_operands_that_miss(self):
        for sign in ("or", "and", "==", "!=", "<", ">", "in", "++"):
            self.assert_bad(f"a {sign}", f"{sign} a", sign, f"a {sign} {sign} b", f"a {sign} , b")
        self.assert_bad("a +", "+ a", "a -", "+", "a b", "1 2", "a 1", "(a) b", "[a] b", "a (b)", "true false")

    def test_lists(self):
        sixteen = ", ".join(["1"] * 16)
        self.assert_good("[]", "[1]", '[1, "a", true, [2], xs]', f"[{sixteen}]", "[if a then b else a, a or b]")
        self.assert_bad(f"[{sixteen}, 1]", f"[[{sixteen}, 1]]", f"len([{sixteen}, 1])")
        self.assert_bad("[1,]", "[,1]", "[,]", "[1 2]", "[1,,2]", "[1", "1]", "]", "[", "[1))", "[1)", "[*]")

    def test_a_written_list_that_is_too_deep_is_read(self):
        self.assert_good("[[[[1]]]]", "[[[[]]]]", "[[[[[[]]]]]]")

    def test_len_and_parentheses(self):
        self.assert_good("len(xs)", "len([])", "len (xs)", "len((xs))", "(a)", "((a))", "len(1)")
        self.assert_bad("len", "len()", "len(1, 2)", "len[1]", "len xs", "len(xs", "()", "(1, 2)", "(1", "1)", "(1]")

    def test_items(self):
        self.assert_good("xs[0]", "xs[0][1]", "[1, 2][0]", '"a"[0]', "1[0]", "true[0]", "(xs ++ xs)[0]", "len(xs)[0]")
        self.assert_good("home[0]", "main.sizes[0]", "main.sizes[a + b][1]", "net.z.zone[0]", "box.extra[*].size[0]")
        self.assert_good('box.extra["a"].size[0]', "xs[if true then 0 else 1]", "xs[not a]", "xs[a or b]")
        self.assert_bad("xs[]", "xs[0", "xs[0, 1]", "xs[*]", "xs]", "[1][*]", "xs[0]]", "xs[:]", "xs(0)", "xs.[0]")
        self.assert_unlike("xs[a] + b", "xs[a + b]")

    def test_names_of_blocks(self):
        self.assert_good("net.z.id", "net.z.range", "net.z.zone", "box.extra[*].label", 'box.extra["a" ].id')
        self.assert_good("box.extra[0].size", "box.extra[if a then 1 else 2].size", "box.extra[box.extra[0].size].id")
        self.assert_bad("net.", "net.z.", ".z", "net.z.id.x", "net.z.id.x.y", "net..z", "net.[0].id", "net.z.[0]")
        self.assert_bad("box.extra[", "box.extra[*", "box.extra[0", "box.extra[*].size[", "box.extra]")
        self.assert_bad("box.extra[*]", "box.extra[*].", "box.extra[].size", "box.extra[*][0].size", "box[*].extra.id")
        self.assert_bad("box.extra[0].", "box.extra[0].size.x", "box.extra[0][1].size", "box.extra[1, 2].size")
        self.assert_bad("net.z.id[*]", "net.z.id[*].x", "box.extra[*].size[*]", "main[0].sizes", "(net.z).id")
        self.assert_bad("net.(z).id", "net.1.id", "1.z.id", '"a".z.id', "(box).extra[0].size", "(box.extra)[0].size")
        self.assert_bad("box.extra[**].size", "box.extra[*, *].size", "box.extra[(*)].size", "xs[0].size")

    def test_own(self):
        self.assert_bad("own", "own.", "own.size.x", "own[0]", "own.size[0].x", "own.1", "(own).size")
        self.assert_unnamed("own.size", "own.size[0]", "own . size")


class DepthTest(ExpressionCase):
    FORMS = (
        ("(", ")"), ("[", "]"), ("len(", ")"), ("xs[", "]"), ("box.extra[", "].size"), ("not ", ""),
        ("if ", " then 1 else 2"), ("if true then ", " else 2"), ("if true then 1 else ", ""), ("main.sizes[", "]"),
        ("1 + (", ")"), ("[1, ", ", 2]"), ("net.z.zone[", "]"), ("(xs)[", "]"), ("not not ", ""),
        ("box.extra[0].size[", "]"), ("[]++[", "]"),
    )

    def count_of(self, opening):
        return 2 if opening == "not not " else 1

    def test_each_form(self):
        for opening, closing in self.FORMS:
            many = 20 // self.count_of(opening)
            self.assert_good(opening * many + "1" + closing * many)
            self.assert_bad(opening * (many + 1) + "1" + closing * (many + 1))
            self.assert_bad("(" + opening * many + "1" + closing * many + ")")

    def test_each_form_within_another(self):
        # Parentheses stand between them, so that looser ones may be operands.
        forms = [form for form in self.FORMS if self.count_of(form[0]) == 1]
        for opening, closing in forms:
            for other, ending in forms:
                whole = f"{opening}({other}(" * 5 + "1" + f"){ending}){closing}" * 5
                self.assert_good(whole)
                self.assert_bad(f"[{whole}]")

    def test_an_empty_list_counts(self):
        self.assert_good("[" * 20 + "]" * 20)
        self.assert_bad("[" * 21 + "]" * 21)

    def test_what_stands_beside_does_not_count(self):
        nineteen = "(" * 19 + "1" + ")" * 19
        self.assert_good(f"(1) + [2] + len(xs) + ({nineteen})", f"({nineteen}) + (1)", f"[{nineteen}, {nineteen}]")
        self.assert_good("xs" + "[0]" * 90, f"xs[{nineteen}][{nineteen}]", f"{nineteen}[0]" + "[1]" * 40)
        self.assert_good("not true and " * 22 + "true", " + ".join(["(1)"] * 40))
        self.assert_good("if [1] then (1) else (2)", f"[if 1 then 2 else 3, not 4, {nineteen}]")
        self.assert_good(f"[box.extra[0].size, main.sizes[0], xs[0], len(xs), [1], {nineteen}]")

    def test_an_index_stands_in_its_brackets_alone(self):
        twenty = "(" * 20 + "xs" + ")" * 20
        self.assert_good(f"{twenty}[0]")
        self.assert_bad(f"xs[{twenty}]", f"not {twenty}", f"if {twenty} then 1 else 2", f"if 1 then {twenty} else 2")
        self.assert_bad(f"if 1 then 2 else {twenty}", f"len({twenty})", f"box.extra[{twenty}].size", f"[{twenty}]")


if __name__ == "__main__":
    unittest.main()
