import copy
import string
import unittest

from laterknown.errors import BadRecord, NoField
from laterknown.values import Record, alike, is_value
from samples import NO_STRINGS, RESERVED, outcome_of

TEXT_SIGNS = string.ascii_lowercase + string.digits + "-"
ID_SIGNS = TEXT_SIGNS + "./[]"
LETTERS = "abcdefghijklm"


def parts(many):
    return {letter: at for at, letter in enumerate(LETTERS[:many])}


class IsValueTest(unittest.TestCase):
    def test_integers(self):
        for value in (0, 1, -1, 10 ** 6, -10 ** 6):
            self.assertIs(is_value(value), True, value)
        for value in (10 ** 6 + 1, -10 ** 6 - 1, 10 ** 40, -10 ** 40):
            self.assertIs(is_value(value), False, value)

    def test_bools_and_none(self):
        self.assertIs(is_value(True), True)
        self.assertIs(is_value(False), True)
        self.assertIs(is_value(None), False)

    def test_texts(self):
        for value in ("", "a", "eu-1", "-", "0", "a" * 20, "z9-" * 6):
            self.assertIs(is_value(value), True, value)
        for value in ("a" * 21, "A", "a b", "a_b", " ", "a\n", "\n", "\u00e4", "\u0663", "a.b", "a/b"):
            self.assertIs(is_value(value), False, value)

    def test_each_single_character(self):
        for code in range(128):
            sign = chr(code)
            self.assertIs(is_value(sign), sign in TEXT_SIGNS, repr(sign))
            self.assertIs(is_value("a" + sign), sign in TEXT_SIGNS, repr(sign))
            self.assertIs(is_value("#" + sign), sign in ID_SIGNS, repr(sign))
            self.assertIs(is_value("?a" + sign), sign in ID_SIGNS, repr(sign))

    def test_ids_and_unknowns(self):
        for mark in "#?":
            for behind in ("1.id", "main/box.b[0].id", "a" * 80, "-", "[", "1"):
                self.assertIs(is_value(mark + behind), True, behind)
            for behind in ("", "a" * 81, "A", "a b", "#a", "?a", "a\n", "\u00e4"):
                self.assertIs(is_value(mark + behind), False, behind)

    def test_lists(self):
        for value in ((), (1,), (True, "a", "#1.id", "?a.b", -3), ((),), (((),),), (((1,), 2), 3), ((), ((1,),))):
            self.assertIs(is_value(value), True, value)
        for value in ((None,), ([],), (1, "A"), ((10 ** 6 + 1,),), (((Record(),),),), ("?",)):
            self.assertIs(is_value(value), False, value)

    def test_long_lists(self):
        self.assertIs(is_value(tuple(range(16))), True)
        self.assertIs(is_value(tuple(range(17))), False)
        self.assertIs(is_value((1, (tuple(range(16)),))), True)
        self.assertIs(is_value((1, (tuple(range(17)),))), False)

    def test_deep_lists(self):
        for value in (((((),),),), ((((1,),),),), (1, (2, (3, ()))), ((), (((), ()), (((),),)))):
            self.assertIs(is_value(value), False, value)

    def test_other_things(self):
        for value in ([], [1], {}, {"a": 1}, Record(), Record(a=1), (Record(),), ({},), ([1],)):
            self.assertIs(is_value(value), False)

    def test_deep_things(self):
        value = ()
        for _ in range(30):
            value = (value,)
        self.assertIs(is_value(value), False)

    def test_by_name(self):
        self.assertIs(is_value(value=3), True)


class AlikeTest(unittest.TestCase):
    def test_alike(self):
        for value in (0, 1, True, False, "", "a", "#1.id", "?a.b", (), (1, True), ((), ("a", (0,)))):
            self.assertIs(alike(value, copy.deepcopy(value)), True, value)

    def test_bools_and_integers(self):
        for one, other in ((True, 1), (False, 0), ((True,), (1,)), (((0,),), ((False,),)), ((1, 0), (1, False))):
            self.assertIs(alike(one, other), False)
            self.assertIs(alike(other, one), False)

    def test_unlike(self):
        pairs = (
            (1, 2), (True, False), ("a", "b"), ("", ()), ("1", 1), ((), (1,)), ((1,), (1, 2)), ((1, 2), (2, 1)),
            ("#a", "?a"), ("?a.b", "?a.c"), ((1,), 1), (("a",), "a"), ((), 0), ((), False),
        )
        for one, other in pairs:
            self.assertIs(alike(one, other), False, (one, other))
            self.assertIs(alike(other, one), False, (one, other))

    def test_by_name(self):
        self.assertIs(alike(one=1, other=1), True)


class RecordTest(unittest.TestCase):
    def test_parts(self):
        record = Record(size=1, net="#1.id", a=(True,))
        self.assertEqual(record["size"], 1)
        self.assertEqual(record["net"], "#1.id")
        self.assertEqual(record["a"], (True,))
        self.assertEqual(len(record), 3)
        self.assertEqual(record.names, ("a", "net", "size"))

    def test_no_parts(self):
        self.assertEqual(len(Record()), 0)
        self.assertEqual(Record().names, ())
        self.assertEqual(Record.of(()), Record())

    def test_names_are_ascending(self):
        self.assertEqual(Record(b=1, ab=2, a=3, z=4).names, ("a", "ab", "b", "z"))

    def test_twelve_and_thirteen_parts(self):
        self.assertEqual(len(Record(**parts(12))), 12)
        self.assertEqual(Record.of(tuple(parts(12).items())), Record(**parts(12)))
        self.assertEqual(outcome_of(lambda: Record(**parts(13))), ("BadRecord", parts(13)))
        self.assertEqual(outcome_of(Record.of, tuple(parts(13).items())), ("BadRecord", parts(13)))

    def test_bad_names(self):
        for name in ("", "A", "aB", "a1", "a_b", "a-b", " a", "a" * 13, "\u00e4", "a\n"):
            self.assertEqual(outcome_of(lambda: Record(**{name: 1})), ("BadRecord", {name: 1}), name)
            self.assertEqual(outcome_of(Record.of, (("b", 2), (name, 1))), ("BadRecord", {"b": 2, name: 1}))

    def test_names_that_are_no_strings(self):
        for name in (1, True, None, (), ("a", 1)):
            self.assertEqual(outcome_of(Record.of, ((name, 1),)), ("BadRecord", {name: 1}))

    def test_self_is_no_name(self):
        self.assertEqual(outcome_of(Record.of, (("a", 2), ("self", 1))), ("BadRecord", {"a": 2, "self": 1}))

    def test_good_names(self):
        for name in [word for word in RESERVED if word != "self"] + ["a" * 12, "cls", "fields", "pairs", "of"]:
            self.assertEqual(Record(**{name: 1})[name], 1)
            self.assertEqual(Record.of(((name, 1),))[name], 1)

    def test_no_field(self):
        record = Record(net=1)
        for thing in NO_STRINGS + ("", "size", "ne", "nets", "self"):
            with self.assertRaises(NoField) as caught:
                record[thing]
            self.assertIs(caught.exception.value, thing)
            self.assertIs(thing in record, False)
        self.assertIs("net" in record, True)

    def test_or(self):
        one, other = Record(a=1, b=2), Record(b=True, c=3)
        self.assertEqual(one | other, Record(a=1, b=True, c=3))
        self.assertEqual(other | one, Record(a=1, b=2, c=3))
        self.assertEqual(one | Record(), one)
        self.assertEqual(Record() | one, one)
        self.assertEqual((one, other), (Record(a=1, b=2), Record(b=True, c=3)))

    def test_or_with_many_parts(self):
        twelve = Record(**parts(12))
        self.assertEqual(twelve | Record(a=50), Record(**{**parts(12), "a": 50}))
        self.assertEqual(Record(**parts(11)) | Record(l=11), twelve)
        with self.assertRaises(BadRecord) as caught:
            twelve | Record(zz=0, a=7)
        self.assertEqual(caught.exception.value, {**parts(12), "a": 7, "zz": 0})
        self.assertEqual(twelve, Record(**parts(12)))

    def test_equal(self):
        self.assertTrue(Record(a=1, b=(True, "x")) == Record(b=(True, "x"), a=1))
        self.assertFalse(Record(a=1) != Record(a=1))
        for other in (Record(a=True), Record(a=2), Record(b=1), Record(), Record(a=1, b=1), Record(a=(1,))):
            self.assertFalse(Record(a=1) == other)
            self.assertTrue(Record(a=1) != other)
        self.assertFalse(Record(a=(1, (0,))) == Record(a=(1, (False,))))

    def test_equals_nothing_else(self):
        for thing in (None, 0, "", {}, {"a": 1}, (), (("a", 1),), [], True):
            self.assertFalse(Record() == thing)
            self.assertFalse(Record(a=1) == thing)
            self.assertTrue(Record(a=1) != thing)

    def test_arguments_stay_as_they_were(self):
        given = {"a": 1, "b": (2,)}
        record = Record(**given)
        given["a"] = 5
        self.assertEqual(record["a"], 1)
        pairs = (("b", 1), ("a", 2))
        Record.of(pairs)
        self.assertEqual(pairs, (("b", 1), ("a", 2)))
        bad = {"a": 1, "B": 2}
        outcome_of(lambda: Record(**bad))
        self.assertEqual(bad, {"a": 1, "B": 2})

    def test_of_by_name(self):
        self.assertEqual(Record.of(pairs=(("a", 1),)), Record(a=1))

    def test_names_is_a_property(self):
        self.assertIsInstance(Record.names, property)


if __name__ == "__main__":
    unittest.main()
