import unittest

from samples import KINDS, ZONED, problem_of

# All that ZONED names, a let, a module with each form of line, and one that is not used.
AHEAD = ZONED + """
let one 1
module big
  input wide
  let near wide
  resource net n
    range near
  resource box k each ["x"]
    size 1
    net net.n.id
    label [each]
  output nets net.n.id
use big other
  wide main.sizes"""
COUNT = AHEAD.count("\n") + 1


def lines(*rows):
    return "\n".join(rows)


def box(name, how="", label='["x"]', size="1"):
    """The lines of a block of the root."""
    return [f"resource box {name}{how}", f"  size {size}", '  net "none"', f"  label {label}"]


class NamingCase(unittest.TestCase):
    def assert_good(self, *rows):
        self.assertIsNone(problem_of(lines(AHEAD, *rows)), rows)

    def assert_doubled(self, line, *rows):
        self.assertEqual(problem_of(lines(*rows)), ("Doubled", line), rows)

    def assert_unnamed(self, line, *rows):
        """These lines behind those of AHEAD raise Unnamed with the line of this number among them."""
        self.assertEqual(problem_of(lines(AHEAD, *rows)), ("Unnamed", COUNT + line), rows)

    def assert_one(self, expression, is_good):
        """Whether an expression may stand in a let of the root."""
        if is_good:
            self.assert_good(f"let tried {expression}")
        else:
            self.assert_unnamed(0, f"let tried {expression}")


class DoubledTest(NamingCase):
    def test_names_of_kinds(self):
        self.assert_doubled(0, "let net 1")
        self.assert_doubled(1, "let a 1", "let box 1")
        self.assert_doubled(1, "module m", "  input net")
        self.assert_doubled(1, "module m", "  let box 1")
        self.assert_doubled(1, "module m", "use m net")

    def test_what_may_be_called_like_kinds(self):
        self.assert_good("module net", "  input a", "  output box 1", "use net y", "  a 1")
        self.assert_good("resource net net", "  range 1")
        self.assert_good(*box("box"))
        self.assert_good(*box("net"))

    def test_lets_inputs_and_uses(self):
        self.assert_doubled(1, "let a 1", "let a 2")
        self.assert_doubled(2, "let a 1", "module m", "use m a")
        self.assert_doubled(2, "module m", "use m a", "let a 1")
        self.assert_doubled(2, "module m", "use m a", "use m a")
        self.assert_doubled(2, "module m", "  input a", "  input a")
        self.assert_doubled(2, "module m", "  input a", "  let a 1")
        self.assert_doubled(2, "module m", "  let a 1", "  input a")
        self.assert_doubled(2, "module m", "  let a 1", "  let a 1")

    def test_names_of_other_places(self):
        self.assert_good("module m", "  let one 1", "  let home 1", "  let main 2", "  output sizes one")
        self.assert_good("module m", "  input a", "module n", "  input a", "  let b a", "let a 1", "let b 2")

    def test_blocks(self):
        self.assert_doubled(2, "resource net z", "  range 1", "resource net z", "  range 2")
        self.assert_doubled(1, "resource net z count 2", 'resource net z each ["a"]')
        self.assert_doubled(2, "module m", "  resource net z", "  resource net z count 1")
        self.assert_good(*box("z"), *box("home"), *box("one"), *box("main"), *box("pair"))
        self.assert_good("module m", "  resource net z", "    range 1", "module n", "  resource net z", "    range 1")

    def test_blocks_of_no_kind(self):
        self.assert_doubled(1, "resource cat z", "resource cat z")

    def test_outputs(self):
        self.assert_doubled(2, "module m", "  output a 1", "  output a 2")
        self.assert_good("module m", "  let a 1", "  output a a", "  resource net a", "    range 1", "module n",
                         "  input a", "  output a a")

    def test_modules(self):
        self.assert_doubled(1, "module m", "module m")
        self.assert_doubled(3, "module m", "  let a 1", "module n", "module m")
        self.assert_good("module one", "module home", "module main")

    def test_fields(self):
        self.assert_doubled(2, "resource net z", "  range 1", "  range 1")
        self.assert_doubled(3, "resource net z", "  range 1", "  none 1", "  none 2")
        self.assert_doubled(2, "resource cat z", "  some 1", "  some 2")
        self.assert_doubled(3, "module m", "  resource cat z", "    some 1", "    some 1")
        self.assert_good("resource net y", "  range 1", "resource net x", "  range 1")

    def test_inputs_of_uses(self):
        self.assert_doubled(4, "module m", "  input a", "use m x", "  a 1", "  a 1")
        self.assert_doubled(3, "module m", "use m x", "  none 1", "  none 1")
        self.assert_doubled(2, "use nowhere x", "  some 1", "  some 1")
        self.assert_good("module m", "  input a", "use m x", "  a 1", "use m y", "  a 1")

    def test_fields_and_inputs_may_be_called_like_anything(self):
        self.assert_good("module m", "  input a", "  input one", "use m x", "  a 1", "  one 1", "let a one")
        text = lines("resource cat z", "  net 1", "  box 2", "let size 1")
        self.assertEqual(problem_of(text), ("Unnamed", 0))

    def test_the_first_line(self):
        self.assert_doubled(2, "let a 1", "let b 2", "let b 3", "let a 4", "let net 5")

    def test_doubled_comes_behind_bad_lines(self):
        self.assertEqual(problem_of("let a 1\nlet a 2\nlet b 01"), ("BadProgram", 2))
        self.assertEqual(problem_of("let net b\nlet b"), ("BadProgram", 1))

    def test_doubled_comes_ahead_of_unnamed(self):
        self.assert_doubled(3, "let a none", "resource cat z", "let b b", "let a 1")

    def test_unnamed_comes_ahead_of_rings(self):
        self.assertEqual(problem_of("let a a\nlet b none"), ("Unnamed", 1))

    def test_all_in_their_sequence(self):
        rows = ["let a a", "let b none", "let b 1", "let c 01"]
        self.assertEqual(problem_of(lines(*rows)), ("BadProgram", 3))
        self.assertEqual(problem_of(lines(*rows[:3])), ("Doubled", 2))
        self.assertEqual(problem_of(lines(*rows[:2])), ("Unnamed", 1))
        self.assertEqual(problem_of(lines(*rows[:1])), ("RingOfNames", ("let a",)))


class UnnamedTest(NamingCase):
    def test_kinds(self):
        self.assert_unnamed(0, "resource cat z")
        self.assert_unnamed(0, "resource cat z", "  size 1")
        self.assert_unnamed(0, "resource home z")
        self.assert_unnamed(0, "deny cat true")
        self.assert_unnamed(1, "module m", "  resource cat z")
        self.assert_unnamed(0, "let a cat.z.id", "resource cat z")
        self.assert_unnamed(0, "let a cat.z[0].id", "resource cat z count 1")
        self.assert_one("cat.z.id", False)
        self.assert_one("cat.z[0].id", False)
        self.assert_one("cat.z[*].id", False)
        self.assert_one("home.z.id", False)

    def test_modules(self):
        self.assert_unnamed(0, "use nowhere x")
        self.assert_unnamed(0, "use nowhere x", "  top 1")
        self.assert_unnamed(0, "use main x")
        self.assert_unnamed(0, "use net x")
        self.assert_unnamed(0, "let a x.out", "use nowhere x")
        self.assert_good("use late x", "module late")

    def test_inputs(self):
        self.assert_unnamed(1, "use pair x", "  none 1", "  top 1")
        self.assert_unnamed(2, "use pair x", "  top 1", "  none 1")
        self.assert_unnamed(2, "use pair x", "  top 1", "  sizes 1")
        self.assert_unnamed(0, "use pair x")
        self.assert_unnamed(0, "use late x", "  a 1", "module late", "  input a", "  input b")
        self.assert_good("use late x", "  b 1", "  a 1", "module late", "  input a", "  input b")
        self.assert_unnamed(0, "use pair x", "  none 1")

    def test_fields_below_blocks(self):
        self.assert_unnamed(0, "resource net y")
        self.assert_unnamed(0, *box("y")[:3])
        self.assert_unnamed(0, *box("y")[:3], "  none 1")
        self.assert_unnamed(4, *box("y"), "  none 1")
        self.assert_unnamed(4, *box("y"), "  id 1")
        self.assert_unnamed(2, "resource net y", "  range 1", "  zone 1")
        self.assert_unnamed(1, "module m", "  resource net y")
        self.assert_good(*[box("y")[at] for at in (0, 3, 1, 2)])

    def test_lets_and_inputs(self):
        self.assert_one("one", True)
        self.assert_one("none", False)
        self.assert_one("top", False)
        self.assert_one("wide", False)
        self.assert_good("module m", "  input a", "  let b a", "  output c b")
        self.assert_unnamed(1, "module m", "  let b one")
        self.assert_unnamed(1, "module m", "  output b top")
        self.assert_unnamed(1, "module m", "  let b home")

    def test_all_lines_that_have_expressions(self):
        self.assert_unnamed(0, "deny net none")
        self.assert_unnamed(0, "resource net y count none", "  range 1")
        self.assert_unnamed(1, "resource net y", "  range none")
        self.assert_unnamed(1, "use pair x", "  top none")
        self.assert_unnamed(1, "module m", "  let a none")
        self.assert_unnamed(1, "module m", "  output a none")
        self.assert_unnamed(1, "module m", "  resource net y count none", "    range 1")
        self.assert_unnamed(2, "module m", "  resource net y", "    range none")

    def test_names_anywhere_in_an_expression(self):
        for whole in ("(#)", "[#]", "[1, #]", "len(#)", "#[0]", "xs[#]", "if # then 1 else 2", "if 1 then # else 2",
                      "if 1 then 2 else #", "not #", "# or 1", "1 or #", "1 and #", "# == 1", "1 in #", "1 ++ #",
                      "1 + #", "1 - 1 - #", "box.extra[#].size", "main.sizes[#]", "xs[0][#]", "[[[#]]]"):
            self.assert_unnamed(1, "let xs [1]", f"let a {whole}".replace("#", "none"))
            self.assert_good("let xs [1]", f"let a {whole}".replace("#", "one"))

    def test_blocks(self):
        self.assert_one("net.none.id", False)
        self.assert_one("net.c.id", False)
        self.assert_one("box.b[0].id", False)
        self.assert_one("net.n.id", False)
        self.assert_one("net.z.id", True)
        self.assert_unnamed(1, "module m", "  let a net.z.id")
        self.assert_good("module m", "  let a net.z.id", "  resource net z", "    range 1")

    def test_fields_and_answers_of_blocks(self):
        for part, is_good in (("range", True), ("id", True), ("zone", True), ("size", False), ("none", False)):
            self.assert_one(f"net.z.{part}", is_good)
        for part, is_good in (("size", True), ("net", True), ("id", True), ("range", False), ("zone", False)):
            self.assert_one(f"box.c.{part}", is_good)
            self.assert_one(f'box.extra["a"].{part}', is_good)
            self.assert_one(f"box.extra[*].{part}", is_good)

    def test_instances(self):
        rows = box("many", " count 2")
        self.assert_good(*rows, "let a box.many[0].size")
        self.assert_good(*rows, "let a box.many[*].size")
        self.assert_good(*rows, 'let a box.many["x"].size')
        self.assert_unnamed(4, *rows, "let a box.many.size")
        self.assert_one("box.extra.size", False)
        self.assert_one("box.c[0].size", False)
        self.assert_one('box.c["a"].size', False)
        self.assert_one("box.c[*].size", False)
        self.assert_one("box.c.size[0]", True)

    def test_things_without_what_stands_behind_them(self):
        for expression in ("net", "net.z", "box.extra", "box.extra[0]", 'box.extra["a"]', "box.c[0]", "main", "pair",
                           "main[0]", "net[0]", "[net]", "other", "net.z[0][0]"):
            self.assert_one(expression, False)

    def test_outputs(self):
        self.assert_one("main.sizes", True)
        self.assert_one("other.nets", True)
        for expression in ("main.nets", "main.none", "pair.sizes", "none.sizes", "one.sizes", "main.top", "main.b",
                           "main.sizes.a", "main.sizes[0].a", "main.sizes[*].a", "main.box.b", "other.near"):
            self.assert_one(expression, False)
        self.assert_unnamed(1, "module m", "  let a main.sizes")

    def test_index(self):
        self.assert_good(*box("y", " count 2", "[index]", "index"))
        self.assert_unnamed(1, *box("y", "", "[1]", "index"))
        self.assert_unnamed(1, *box("y", ' each ["a"]', "[1]", "index"))
        self.assert_unnamed(0, *box("y", " count index"))
        self.assert_unnamed(0, *box("y", ' each if index == 1 then ["a"] else []'))
        self.assert_one("index", False)
        self.assert_unnamed(0, "deny box index == 1")
        self.assert_unnamed(1, "use pair x", "  top index")
        self.assert_unnamed(1, "module m", "  output a index")
        self.assert_good("module m", "  resource net y count 2", "    range index")

    def test_each(self):
        self.assert_good(*box("y", ' each ["a"]', "[each]", "each"))
        self.assert_unnamed(3, *box("y", "", "[each]"))
        self.assert_unnamed(3, *box("y", " count 2", "[each]"))
        self.assert_unnamed(0, *box("y", " count len([each])"))
        self.assert_unnamed(0, *box("y", ' each if each == "a" then ["a"] else []'))
        self.assert_one("each", False)
        self.assert_unnamed(0, "deny box each == 1")
        self.assert_unnamed(1, "module m", "  let a each")
        self.assert_good("module m", '  resource net y each ["a"]', "    range each")

    def test_own(self):
        self.assert_good("deny box own.size > 5 or own.net == net.z.id and own.label == [one]")
        self.assert_good("deny net own.range == main.sizes")
        self.assert_unnamed(0, "deny box own.range > 5")
        self.assert_unnamed(0, "deny box own.id == 1")
        self.assert_unnamed(0, "deny net own.zone == 1")
        self.assert_unnamed(0, "deny net own.none == 1")
        self.assert_one("own.size", False)
        self.assert_unnamed(1, *box("y", "", "[1]", "own.size"))
        self.assert_unnamed(0, *box("y", " count own.size"))
        self.assert_unnamed(1, "use pair x", "  top own.size")

    def test_rules_see_the_root(self):
        self.assert_good("deny box home == one", "deny box box.extra[*].size == []")
        self.assert_unnamed(0, "deny box top == 1")
        self.assert_unnamed(0, "deny box none == 1")

    def test_the_first_line(self):
        self.assert_unnamed(1, "let a 1", "let b none", "let c none", "resource cat z")
        self.assert_unnamed(0, "resource net y", "let b none")


class KeysTest(NamingCase):
    def assert_keys(self, keys, *ahead):
        self.assert_good(*ahead, *box("y", " each " + keys))

    def assert_no_keys(self, keys, *ahead):
        self.assert_unnamed(len(ahead), *ahead, *box("y", " each " + keys))

    def test_lists_of_texts(self):
        self.assert_keys("[]")
        self.assert_keys('["a"]')
        self.assert_keys('["a", "b-1", "z"]')
        self.assert_keys('["a"] ++ ["b"] ++ []')
        self.assert_keys('(["a"] ++ (["b"]))')
        self.assert_keys('["a", "a"]')

    def test_texts_begin_with_a_letter(self):
        for text in ("", "1", "1a", "-", "-a", "0"):
            self.assert_no_keys(f'["{text}"]')
            self.assert_no_keys(f'["a", "{text}"]')
            self.assert_no_keys(f'["a"] ++ ["{text}"]')
            self.assert_no_keys(f'if true then ["a"] else ["{text}"]')
            self.assert_no_keys("xs", f'let xs ["a", "{text}"]')

    def test_conditions_may_be_anything(self):
        self.assert_keys('if net.z.zone == "1" then ["a"] else []')
        self.assert_keys('if one > 2 and not (len(main.sizes) == 0) then ["a"] else if true then [] else ["b"]')
        self.assert_keys('if 1 then ["a"] else (if ["1"] then ["b"] else [])')
        self.assert_keys('if if true then false else true then ["a"] else []')
        self.assert_no_keys('if none then ["a"] else []')

    def test_other_expressions(self):
        for keys in ('"a"', "1", "true", "[1]", "[true]", "[one]", '[["a"]]', '["a", 1]', '["a", ["b"]]', "one", "home",
                     'len(["a"])', '["a"][0]', '[["a"]][0]', '["a"] == ["a"]', '"a" in ["a"]', "main.sizes", "net.z.id",
                     "box.extra[*].label", "not []", "[] or []", "[] and []", "1 + 1", '"a" ++ ["b"]', '["a"] ++ one',
                     "if true then one else []", "if true then [] else one", "if true then [] else 1",
                     '[if true then "a" else "b"]', "none", '["a"] ++ none'):
            self.assert_no_keys(keys)

    def test_lets(self):
        self.assert_keys("xs", 'let xs ["a"]')
        self.assert_no_keys('"xs"', 'let xs ["a"]')
        self.assert_keys("xs ++ ys", 'let xs ["a"] ++ ys', 'let ys if one == 1 then ["b"] else []')
        self.assert_keys("if true then xs else (xs)", 'let xs ["a"]')
        self.assert_no_keys("xs", "let xs one")
        self.assert_no_keys("xs", "let xs ys", 'let ys ["a"] ++ [one]')
        self.assert_no_keys("xs ++ ys", 'let xs ["a"]', "let ys home")
        self.assert_good(*box("y", " each late"), 'let late ["a"]')
        self.assert_unnamed(0, *box("y", " each late"), "let late none")

    def test_lets_and_inputs_in_modules(self):
        self.assert_good("module m", '  let xs ["a"]', "  resource net y each xs", "    range 1")
        self.assert_unnamed(2, "module m", "  input xs", "  resource net y each xs", "    range 1")
        self.assert_unnamed(3, "module m", "  input ys", "  let xs ys", "  resource net y each xs", "    range 1")
        self.assert_unnamed(2, 'let xs ["a"]', "module m", "  resource net y each xs", "    range 1")
        self.assert_unnamed(1, "module m", "  resource net y each main.sizes", "    range 1")

    def test_lets_that_stand_in_themselves(self):
        for rows, ring in (
            (['let xs xs ++ ["a"]'], ("let xs",)),
            (['let xs if true then xs else ["a"]'], ("let xs",)),
            (['let xs ["a"] ++ ys', "let ys xs"], ("let xs", "let ys")),
        ):
            found = problem_of(lines(*rows, *box("y", " each xs")))
            self.assertEqual(found[0], "RingOfNames")
            self.assertEqual(sorted(found[1]), sorted(ring))
        self.assert_no_keys("xs", "let xs xs ++ one")
        self.assert_no_keys("xs", 'let xs ys ++ ["a"]', "let ys xs ++ one")

    def test_keys_that_are_long(self):
        names = [one + other for one in "abcd" for other in "xyzw"]
        rows = [f"let {name} {further} ++ {further} ++ {further}" for name, further in zip(names, names[1:])]
        rows.append(f'let {names[-1]} ["a"]')
        self.assertIsNone(problem_of(lines(*rows, *box("y", f" each {names[0]}"))))


if __name__ == "__main__":
    unittest.main()
