"""Which rows of answers are looked at."""

import unittest

from laterknown.asking import Asked
from laterknown.surveys import used_texts
from laterknown.values import Record
from staged import block, staged_program, staged_state, thing

Z, Y = ("net.z", "zone"), ("net.y", "zone")


class AskedTest(unittest.TestCase):
    def setUp(self):
        self.asked = Asked({"new-0": True, "new-2": True}, ({Z: "given", ("net.x", "zone"): "other"},))
        self.asked.has_grown = False

    def test_nothing_is_asked_for(self):
        self.assertEqual(self.asked.rows(), [{}])

    def test_an_answer(self):
        self.asked.ask(Z)
        self.assertTrue(self.asked.has_grown)
        self.assertEqual(self.asked.rows(), [{Z: "?net.z.zone"}, {Z: "new-1"}, {Z: "given"}])
        self.asked.has_grown = False
        self.asked.ask(Z)
        self.assertFalse(self.asked.has_grown)

    def test_two_answers(self):
        self.asked.ask(Y)
        self.asked.ask(Z)
        self.assertEqual(self.asked.rows()[0], {Y: "?net.y.zone", Z: "?net.z.zone"})
        self.assertEqual(len(self.asked.rows()), 6)
        texts = {text for row in self.asked.rows() for text in row.values()}
        self.assertEqual(texts, {"?net.y.zone", "?net.z.zone", "new-1", "new-3", "given"})

    def texts(self, pair):
        return sorted({row[pair] for row in self.asked.rows()})

    def test_comparisons(self):
        self.asked.ask(Y)
        for one, other, grown in (
                ("?net.y.zone", "eu", True), ("?net.y.zone", "eu", False), ("us", "new-1", True), ("de", "fr", False),
                ("?net.y.zone", "#1.id", False), ("?net.y.zone", 1, False), ((1, "?net.y.zone"), ("x", "a"), False),
                (("x", "?net.y.zone"), ("x", "a"), True), (("x", "?net.y.zone"), ("y", "b"), False),
                (("x", "?net.y.zone"), ("x", "b", "c"), False), ("?net.y.zone", ("b",), False)):
            self.asked.has_grown = False
            self.assertIs(self.asked.are_alike(one, other), False)
            self.assertIs(self.asked.has_grown, grown, (one, other))
        self.assertEqual(self.texts(Y), ["?net.y.zone", "a", "eu", "new-1", "us"])

    def test_two_answers_that_are_compared(self):
        self.asked.ask(Y)
        self.asked.ask(Z)
        self.assertFalse(self.asked.are_alike("new-1", "new-3"))
        self.assertEqual(self.texts(Y), ["?net.y.zone", "new-1", "new-3"])
        self.assertEqual(self.texts(Z), ["?net.z.zone", "given", "new-1", "new-3"])

    def test_alike_values(self):
        self.asked.ask(Y)
        self.asked.has_grown = False
        for value in ("?net.y.zone", "new-1", 1, True, (), ("?net.y.zone", (1,))):
            self.assertIs(self.asked.are_alike(value, value), True)
        self.assertIs(self.asked.are_alike(1, True), False)
        self.assertIs(self.asked.are_alike(("?net.y.zone",), ("?net.y.zone",)), True)
        self.assertFalse(self.asked.has_grown)
        self.assertIs(self.asked.are_alike_records(Record(a=1, b="new-1"), Record(a=1, b="new-1")), True)
        self.assertIs(self.asked.are_alike_records(Record(a=1, b="new-1"), Record(a=1, b="eu")), False)
        self.assertEqual(self.texts(Y), ["?net.y.zone", "eu", "new-1"])


class UsedTextsTest(unittest.TestCase):
    def test_texts_of_all_sorts(self):
        rows = (*block("net", "z", f='["a", if "b" == "c" then 1 else ["d"]]', h="net.y.zone"), *block("net", "y"),
                'let x ["e"]', 'deny net own.f == "f"', "module m", '  output o "g"')
        state = staged_state({"net.z": thing(1, f=("h", ("i", 1)), zone="j")}, (("net.y", thing(2, u="k", zone="l")),))
        found = used_texts(staged_program(*rows), state, ({Z: "m"}, {Y: "n"}))
        self.assertEqual(sorted(found), ["#1.id", "#2.id", *"abcdefghijklmn"])


if __name__ == "__main__":
    unittest.main()
