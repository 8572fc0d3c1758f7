"""The values of expressions (point 7), seen as the fields of outcomes."""

import unittest

from laterknown.outcomes import outcome
from laterknown.programs import read_program
from laterknown.states import State
from samples import KINDS, lines, same

# An id, an unknown and blocks of each sort, to be named in expressions.
AROUND = (
    "resource net y", "  range 7",
    "resource box b count 3", "  size index + 10", '  net "none"', '  label ["b", index]',
    'resource box k each ["a", "z"] ++ ["m"]', "  size 1", "  net [each]", '  label ["k", each]',
    "resource box none count 0", "  size 1", "  net 1", "  label 1",
    "resource box bad count 13", "  size 1", "  net 1", "  label 1",
    "resource box half", "  size 4", '  net 1 + "a"', '  label ["half"]',
    'let five 5', 'let wrong 1 + "a"', "let no false",
)
WRONG = '(1 + "a")'
SORTS = ("3", "true", '"eu"', "net.y.id", "net.y.zone", "[1]")


class EvaluationCase(unittest.TestCase):
    def value(self, text, *rows, row=()):
        """The value of an expression, None if it cannot be evaluated."""
        program = read_program(KINDS, lines(*AROUND, *rows, "resource net probe", f"  range {text}"))
        found = outcome(program, State(), row)
        fields = found.fields_of("net.probe")
        if fields is None:
            self.assertEqual((found["net.probe"], found.fault_of("net.probe")), ("fault", "evaluate"))
            return None
        self.assertEqual((found["net.probe"], found.fault_of("net.probe")), ("make", None))
        return fields["range"]

    def assert_value(self, text, value, *rows):
        found = self.value(text, *rows)
        self.assertTrue(found is not None and same(found, value), (text, found, value))

    def assert_none(self, *texts):
        for text in texts:
            self.assertIsNone(self.value(text), text)


class WrittenTest(EvaluationCase):
    def test_written_values(self):
        for text, value in (
                ("1", 1), ("-1", -1), ("0", 0), ("1000000", 10 ** 6), ("-1000000", -10 ** 6), ('""', ""),
                ('"eu-1"', "eu-1"),
                ("true", True), ("false", False), ("[]", ()), ('[1, "a", [true]]', (1, "a", (True,)))):
            self.assert_value(text, value)

    def test_answers_to_come(self):
        self.assert_value("net.y.id", "#net.y.id")
        self.assert_value("net.y.zone", "?net.y.zone")
        self.assert_value("box.b[1].id", "#box.b[1].id")
        self.assert_value('box.k["z"].id', "#box.k[z].id")

    def test_deep_lists(self):
        self.assert_value("[[[1]]]", (((1,),),))
        self.assert_value("[[[]]]", (((),),))
        self.assert_none("[[[[]]]]", "[[[[1]]]]", "[1, [2, [3, []]], 4]", "[[[[1]]]][0]")

    def test_long_lists(self):
        self.assert_value("[" + ", ".join(["1"] * 16) + "]", (1,) * 16)


class SumTest(EvaluationCase):
    def test_sums(self):
        for text, value in (
                ("1 + 2", 3), ("1 - 2", -1), ("1 - 2 + 3", 2), ("1 - (2 + 3)", -4), ("10 - 2 - 3", 5), ("-1 - -1", 0)):
            self.assert_value(text, value)

    def test_the_greatest_and_the_least_result(self):
        self.assert_value("999999 + 1", 10 ** 6)
        self.assert_value("-999999 - 1", -10 ** 6)
        self.assert_none("1000000 + 1", "-1000000 - 1", "999999 + 2", "-1 - 1000000")

    def test_each_step_has_to_be_a_value(self):
        self.assert_none("1000000 + 1 - 1", "0 - 1000000 - 1 + 5")
        self.assert_value("1000000 + (1 - 1)", 10 ** 6)
        self.assert_value("1000000 - 1 + 1", 10 ** 6)

    def test_operands_of_each_sort(self):
        for sign in ("+", "-", "<", ">"):
            for one in SORTS:
                for other in SORTS:
                    found = self.value(f"{one} {sign} {other}")
                    self.assertEqual(found is not None, one == other == "3", (one, sign, other))


class OrderTest(EvaluationCase):
    def test_less_and_more(self):
        for text, value in (
                ("1 < 2", True), ("2 < 1", False), ("1 < 1", False), ("1 > 1", False), ("2 > 1", True),
                ("1 > 2", False),
                ("-2 < -1", True)):
            self.assert_value(text, value)


class EqualityTest(EvaluationCase):
    def test_values_of_all_sorts(self):
        for at, one in enumerate(SORTS):
            for to, other in enumerate(SORTS):
                self.assert_value(f"{one} == {other}", at == to)
                self.assert_value(f"{one} != {other}", at != to)

    def test_bools_beside_integers(self):
        self.assert_value("true == 1", False)
        self.assert_value("0 == false", False)
        self.assert_value("[1] == [true]", False)
        self.assert_value("[[1], 2] == [[1], 2]", True)
        self.assert_value("[1] == [1, 1]", False)
        self.assert_value("[] == []", True)
        self.assert_value('"1" == 1', False)

    def test_unknowns(self):
        zones = ("resource net x", "  range 1")
        self.assert_value("net.y.zone == net.y.zone", True, *zones)
        self.assert_value("net.y.zone == net.x.zone", False, *zones)
        self.assert_value("[net.y.zone] == [net.y.zone]", True, *zones)
        self.assert_value('net.y.zone == ""', False, *zones)
        row = ((("net.x", "zone"), "eu"), (("net.y", "zone"), "eu"))
        self.assertIs(self.value("net.y.zone == net.x.zone", *zones, row=row), True)
        self.assertIs(self.value("net.y.zone == net.x.zone", *zones, row=row[1:]), False)

    def test_all_parts_are_evaluated(self):
        self.assert_none(f"1 == {WRONG}", f"{WRONG} != 1", f"{WRONG} == {WRONG}")


class LogicTest(EvaluationCase):
    def test_tables(self):
        for one in (True, False):
            for other in (True, False):
                words = str(one).lower(), str(other).lower()
                self.assert_value(f"{words[0]} and {words[1]}", one and other)
                self.assert_value(f"{words[0]} or {words[1]}", one or other)
            self.assert_value(f"not {words[0]}", not one)

    def test_what_is_not_needed_is_not_evaluated(self):
        for right in (WRONG, "wrong", "1", '"a"', "box.bad[0].size"):
            self.assert_value(f"false and {right}", False)
            self.assert_value(f"true or {right}", True)
            self.assert_none(f"true and {right}", f"false or {right}", f"{right} and false", f"{right} or true")

    def test_chains(self):
        self.assert_value(f"true and false and {WRONG}", False)
        self.assert_value(f"false or true or {WRONG}", True)
        self.assert_value("false or false or true", True)
        self.assert_value("true and true and false", False)
        self.assert_value(f"false and {WRONG} or true", True)
        self.assert_none(f"true and {WRONG} and false", f"true and true and {WRONG}", f"false or {WRONG} or true")

    def test_operands_of_each_sort(self):
        for sort in SORTS:
            is_bool = sort == "true"
            for text in (f"not {sort}", f"{sort} and true", f"true and {sort}", f"{sort} or false", f"false or {sort}"):
                self.assertEqual(self.value(text) is not None, is_bool, text)


class IfTest(EvaluationCase):
    def test_branches(self):
        self.assert_value("if true then 1 else 2", 1)
        self.assert_value("if false then 1 else 2", 2)
        self.assert_value(f"if true then 1 else {WRONG}", 1)
        self.assert_value(f"if false then {WRONG} else 2", 2)
        self.assert_none(f"if true then {WRONG} else 2", f"if false then 1 else {WRONG}", f"if {WRONG} then 1 else 1")

    def test_conditions_of_each_sort(self):
        for sort in SORTS:
            self.assertEqual(self.value(f"if {sort} then 1 else 2") is not None, sort == "true", sort)


class ListTest(EvaluationCase):
    def test_joins(self):
        self.assert_value("[1] ++ [2, 3] ++ []", (1, 2, 3))
        self.assert_value("[] ++ []", ())
        self.assert_value("[[[1]]] ++ [2]", (((1,),), 2))
        for one in SORTS:
            for other in SORTS:
                self.assertEqual(self.value(f"{one} ++ {other}") is not None, one == other == "[1]", (one, other))

    def test_the_longest_join(self):
        eight, nine = "[" + ", ".join("12345678") + "]", "[" + ", ".join("123456789") + "]"
        self.assert_value(f"{eight} ++ {eight}", tuple(range(1, 9)) * 2)
        self.assert_none(f"{eight} ++ {nine}", f"({eight} ++ {nine})[0]", f"len({eight} ++ {nine})",
            f"{eight} ++ {eight} ++ [1]")

    def test_length(self):
        self.assert_value("len([])", 0)
        self.assert_value("len([1, [2, 3]])", 2)
        for sort in SORTS:
            self.assertEqual(self.value(f"len({sort})") is not None, sort == "[1]", sort)

    def test_in(self):
        self.assert_value("1 in [2, 1]", True)
        self.assert_value("1 in []", False)
        self.assert_value("1 in [true, [1]]", False)
        self.assert_value("[1] in [true, [1]]", True)
        self.assert_value("net.y.zone in [net.y.id, net.y.zone]", True)
        for sort in SORTS:
            self.assertEqual(self.value(f"3 in {sort}") is not None, sort == "[1]", sort)
        self.assert_none(f"1 in [1, {WRONG}]", f"{WRONG} in []")

    def test_items(self):
        self.assert_value("[4, 5, 6][0]", 4)
        self.assert_value("[4, 5, 6][2]", 6)
        self.assert_value("[[1, 2], [3]][0][1]", 2)
        self.assert_value("[4, 5][five - 4]", 5)
        self.assert_none("[4, 5, 6][3]", "[4, 5, 6][-1]", "[][0]", "[1][0][0]", "[[1]][0][1]", "[1, 2][100]")

    def test_items_of_each_sort(self):
        for sort in SORTS:
            self.assertEqual(self.value(f"{sort}[0]") is not None, sort == "[1]", sort)
            self.assertEqual(self.value(f"[1, 2, 3, 4][{sort}]") is not None, sort == "3", sort)

    def test_all_parts_are_evaluated(self):
        self.assert_none(f"[1, {WRONG}][0]", f"len([{WRONG}])", f"[{WRONG}] ++ []")


class NamesTest(EvaluationCase):
    def test_lets_are_evaluated_where_they_are_named(self):
        self.assert_value("five + five", 10)
        self.assert_none("wrong", "[wrong][0]")
        self.assert_value("if no then wrong else 1", 1)
        self.assert_value("1", 1, "let other wrong")

    def test_lets_see_later_lets(self):
        self.assert_value("one", 3, "let one two + 1", "let two 2")

    def test_fields(self):
        self.assert_value("net.y.range", 7)
        self.assert_value("box.half.size", 4)
        self.assert_none("box.half.net", "box.half.id", "[box.half.label, box.half.net]")
        self.assert_value("box.half.label", ("half",))

    def test_answers_of_what_cannot_be_evaluated(self):
        self.assert_none("box.half.id", "box.bad[0].id", "len([box.half.id])")
        self.assert_value("if no then box.half.id else 1", 1)

    def test_instances(self):
        self.assert_value("box.b[0].size", 10)
        self.assert_value("box.b[2].size", 12)
        self.assert_value("box.b[five - 4].label", ("b", 1))
        self.assert_none("box.b[3].size", "box.b[-1].size", 'box.b["0"].size', "box.b[true].size", "box.b[[0]].size")
        self.assert_none("box.none[0].size", "box.bad[0].size", "box.b[wrong].size", "box.b[net.y.id].size")

    def test_keys(self):
        self.assert_value('box.k["z"].net', ("z",))
        self.assert_value('box.k[["m", "a"][0]].label', ("k", "m"))
        self.assert_none('box.k["b"].net', "box.k[0].net", 'box.k[""].net', 'box.k[["a"]].net', "box.k[net.y.zone].net")

    def test_a_key_that_is_an_answer(self):
        row = ((("net.y", "zone"), "z"),)
        self.assertEqual(self.value("box.k[net.y.zone].net", row=row), ("z",))
        self.assertIsNone(self.value("box.k[net.y.zone].net", row=((("net.y", "zone"), "zz"),)))

    def test_all_instances(self):
        self.assert_value("box.b[*].size", (10, 11, 12))
        self.assert_value("box.k[*].net", (("a",), ("z",), ("m",)))
        self.assert_value("box.b[*].id", ("#box.b[0].id", "#box.b[1].id", "#box.b[2].id"))
        self.assert_value("box.none[*].size", ())
        self.assert_value("box.none[*].id", ())
        self.assert_none("box.bad[*].size", "len(box.bad[*].id)")

    def test_all_instances_have_to_be_evaluated(self):
        rows = ("resource box part count 2", "  size [1][index]", "  net index", "  label 9")
        self.assertIsNone(self.value("box.part[*].size", *rows))
        self.assert_value("box.part[0].size", 1, *rows)
        self.assert_value("box.part[*].net", (0, 1), *rows)
        self.assert_value("box.part[0].id", "#box.part[0].id", *rows)
        self.assertIsNone(self.value("box.part[1].id", *rows))
        self.assertIsNone(self.value("box.part[*].id", *rows))

    def test_a_list_of_deep_values(self):
        rows = ("resource box deep count 1", "  size [[1]]", "  net [[[1]]]", "  label 9")
        self.assert_value("box.deep[*].size", (((1,),),), *rows)
        self.assertIsNone(self.value("box.deep[*].net", *rows))
        self.assert_value("box.deep[0].net", (((1,),),), *rows)


MODULE = (
    "let top 100", "let five 55",
    "module pair", "  input top", "  input more", "  let five top + 5", "  let wrong more",
    "  resource box b count top", "    size five + index", '    net "none"', "    label [top, index]",
    "  resource net n", "    range len(box.b[*].size)",
    "  output sizes box.b[*].size", "  output five five", "  output id net.n.id", "  output wrong wrong + 1",
    "  output zone net.n.zone",
    "use pair one", "  top 1", "  more true",
    "use pair two", "  top len(one.sizes) + 1", "  more one.five",
    "module idle", "  input x", '  let bad 1 + "a"', "  resource box b count x", "    size bad", "    net bad",
    "    label bad",
)


class ModulesTest(unittest.TestCase):
    def found(self, *rows, row=()):
        return outcome(read_program(KINDS, lines(*MODULE, *rows)), State(), row)

    def probe(self, text):
        return self.found("resource net probe", f"  range {text}").fields_of("net.probe")

    def test_the_addresses(self):
        self.assertEqual(self.found().addresses, (
            "one/box.b[0]", "one/net.n", "two/box.b[0]", "two/box.b[1]", "two/net.n"))

    def test_a_module_sees_its_own_names(self):
        found = self.found()
        self.assertEqual(found.fields_of("one/box.b[0]")["size"], 6)
        self.assertEqual(found.fields_of("one/box.b[0]")["label"], (1, 0))
        self.assertEqual(found.fields_of("two/box.b[1]")["size"], 8)
        self.assertEqual(found.fields_of("two/box.b[1]")["label"], (2, 1))
        self.assertEqual((found.fields_of("one/net.n")["range"], found.fields_of("two/net.n")["range"]), (1, 2))

    def test_the_root_sees_its_own_names_and_the_outputs(self):
        self.assertEqual(self.probe("[top, five, one.five, two.five]")["range"], (100, 55, 6, 7))
        self.assertEqual(self.probe("[one.sizes, two.sizes]")["range"], ((6,), (7, 8)))
        self.assertEqual(self.probe("[one.id, two.id]")["range"], ("#one/net.n.id", "#two/net.n.id"))
        self.assertEqual(self.probe("two.zone")["range"], "?two/net.n.zone")

    def test_inputs_are_evaluated_where_they_are_named(self):
        self.assertIsNone(self.probe("one.wrong"))
        self.assertEqual(self.probe("two.wrong")["range"], 7)

    def test_rows_of_answers_of_modules(self):
        found = self.found("resource net probe", "  range two.zone", row=((("two/net.n", "zone"), "eu"),))
        self.assertEqual(found.fields_of("net.probe")["range"], "eu")


if __name__ == "__main__":
    unittest.main()
