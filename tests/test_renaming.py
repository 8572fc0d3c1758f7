"""Refactorings of programs made by chance: they are quiet, and plans change but for names."""

import random
import unittest

from laterknown.errors import LaterError, Loud, NotSingle
from laterknown.programs import read_program, show_program
from laterknown.refactoring import counted, loud, quiet, renamed, shows_loud, split, wished_addresses, wrapped
from laterknown.states import State
from quietly import is_quiet_under, loud_rows, moved_state, planned_with_names
from randomly import random_case
from slowly import Slow

CALLS = {"renamed": renamed, "counted": counted, "split": split, "wrapped": wrapped}


def refactorings(chance, program):
    """Refactorings that may be tried: the word, the arguments, and other names of blocks."""
    blocks = list(program.outline.root().things)
    kind, name = chance.choice(blocks)
    yield "renamed", (kind, name, "fresh"), {f"{kind}.{name}": f"{kind}.fresh"}
    yield "counted", (kind, name), {}
    for names in ((), ("one",), ("one", "two")):
        yield "split", (*chance.choice(blocks), names), {}
    for many in (1, 2, 3):
        chosen = chance.sample(blocks, min(many, len(blocks)))
        yield "wrapped", (tuple(chosen), "mod", "extra"), {f"{kind}.{name}": f"extra/{kind}.{name}" for kind, name in chosen}


def changed_blocks(word, arguments):
    chosen = arguments[0] if word == "wrapped" else [arguments[:2]]
    return [f"{kind}.{name}" for kind, name in chosen]


class RandomRefactoringTest(unittest.TestCase):
    def check(self, seed, nets, boxes):
        kinds, program, state = random_case(seed, nets, boxes)
        done = 0
        for word, arguments, blocks in refactorings(random.Random(seed), program):
            about = (seed, word, arguments)
            try:
                other, pairs = CALLS[word](program, *arguments)
            except (Loud, NotSingle):
                continue
            self.assertEqual(read_program(kinds, show_program(other)), other, about)
            self.assertTrue(quiet(program, other, pairs), about)
            self.assertEqual(loud_rows(program, other, pairs), [], about)
            self.check_plans(program, other, state, dict(pairs), changed_blocks(word, arguments), blocks, about)
            done += 1
        return done

    def check_plans(self, program, other, state, names, changed, blocks, about):
        """The plan is the same but for names, where the document says so."""
        in_the_way = [new for old, new in names.items() if old != new and new in state]
        unnamed = [address for address in state.addresses if address not in names
                   and address.partition("[")[0] in changed]
        if not in_the_way and not unnamed:
            one = planned_with_names(program, state, {**blocks, **names})
            self.assertEqual(one, planned_with_names(other, moved_state(state, names), {}), about)

    def test_small_programs(self):
        self.assertGreater(sum(self.check(seed, 1, 1 + seed % 4) for seed in range(5000, 5030)), 100)

    def test_two_answers(self):
        self.assertGreater(sum(self.check(seed, 2, 1 + seed % 3) for seed in range(6000, 6012)), 40)

    def test_one_behind_the_other(self):
        for seed in range(7000, 7020):
            kinds, program, state = random_case(seed, 1, 3)
            chance = random.Random(seed)
            first, at_first = program, state
            names = {}
            blocks = {}
            for word in ("renamed", "wrapped", "counted"):
                root = sorted(program.outline.root().things)
                if not root:
                    continue
                kind, name = chance.choice(root)
                arguments = {"renamed": (kind, name, "fresh"), "wrapped": (((kind, name),), "mod", "extra"),
                             "counted": (kind, name)}[word]
                try:
                    program, pairs = CALLS[word](program, *arguments)
                except NotSingle:
                    continue
                steps = dict(pairs)
                names = {old: steps.get(new, new) for old, new in (names or {old: old for old in steps}).items()}
                new = {"renamed": f"{kind}.fresh", "wrapped": f"extra/{kind}.{name}"}.get(word, f"{kind}.{name}")
                blocks = {**{old: new if at == f"{kind}.{name}" else at for old, at in blocks.items()}}
                blocks.setdefault(f"{kind}.{name}", new)
            self.assertTrue(quiet(first, program, tuple(sorted(names.items()))), seed)
            if not [new for old, new in names.items() if old != new and new in at_first]:
                unnamed = [address for address in at_first.addresses if address not in names]
                if not unnamed:
                    one = planned_with_names(first, at_first, {**blocks, **names})
                    other = planned_with_names(program, moved_state(at_first, names), {})
                    self.assertEqual(one, other, seed)


class RandomLoudTest(unittest.TestCase):
    """Quiet and loud beside what is found slowly, for programs with one line otherwise."""

    CHANGES = (('"eu"', '"us"'), ("not ", ""), ("1", "2"), ("==", "!="), ('"a"', '"b"'), (".zone", ".mark"))

    def other(self, chance, kinds, program):
        rows = show_program(program).split("\n")
        at = chance.randrange(len(rows))
        for old, new in self.CHANGES:
            if chance.random() < 0.6:
                rows[at] = rows[at].replace(old, new, 1)
        if chance.random() < 0.2:
            rows.append("deny box own.size == 2")
        return read_program(kinds, "\n".join(rows))

    def pairs(self, chance, program):
        names = wished_addresses(program)
        news = list(names)
        if chance.random() < 0.1:
            chance.shuffle(news)
        pairs = list(zip(names, news))
        if pairs and chance.random() < 0.15:
            pairs.pop(chance.randrange(len(pairs)))
        return tuple(pairs)

    def check(self, seed, nets, boxes):
        kinds, program, _ = random_case(seed, nets, boxes)
        chance = random.Random(seed)
        for _ in range(4):
            try:
                other = self.other(chance, kinds, program)
            except LaterError:
                continue
            pairs = self.pairs(chance, program)
            found, rows = loud(program, other, pairs), loud_rows(program, other, pairs)
            self.assertEqual(found is None, rows == [], seed)
            if found is not None:
                self.assertTrue(shows_loud(program, other, pairs, found), seed)
            slow, like = Slow(program, State()), Slow(other, State())
            for row in [chance.choice(slow.views).row for _ in range(3)] + rows[:2]:
                shown = shows_loud(program, other, pairs, tuple(sorted(row.items())))
                self.assertEqual(shown, not is_quiet_under(slow, like, pairs, row), (seed, row))

    def test_small_programs(self):
        for seed in range(5000, 5040):
            self.check(seed, 1, 1 + seed % 3)

    def test_two_answers(self):
        for seed in range(6000, 6012):
            self.check(seed, 2, 1 + seed % 3)


if __name__ == "__main__":
    unittest.main()
