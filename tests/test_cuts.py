import copy
import itertools
import random
import unittest

from tests.helper import Shapes
from whence.cuts import fewest, shows
from whence.reasons import least_of

ABC = (("a", "b"), ("c",), ("d", "e"))
PAIRS = (("a", "b"), ("a", "c"), ("b", "c"))
NONE = ("apart", ())


def strikes(names, reasons):
    return all([set(names) & set(reason) for reason in reasons])


def least_many(reasons, kept):
    """How many names the fewest are that strike the reasons, by trying; None where none do."""
    names = sorted({name for reason in reasons for name in reason if name not in kept})
    for many in range(len(names) + 1):
        if any([strikes(some, reasons) for some in itertools.combinations(names, many)]):
            return many
    return None


def shows_slowly(tree, reasons, budget, kept):
    """Point 48, read off form by form."""
    if tree[0] == "apart":
        pairs = itertools.combinations(tree[1], 2)
        return (len(tree[1]) > budget and all([reason in reasons for reason in tree[1]])
                and all([one != other and not (set(one) & set(other)) - set(kept) for one, other in pairs]))
    if tree[1] not in reasons:
        return False
    free = [name for name in tree[1] if name not in kept]
    if tree[0] == "fast":
        return free == []
    if len(free) != len(tree[2]):
        return False
    for name, case in zip(free, tree[2]):
        if not shows_slowly(case, [reason for reason in reasons if name not in reason], budget - 1, kept):
            return False
    return True


def some_reasons(rng, many, longest, names="abcdefghij"):
    return least_of([tuple(rng.sample(names, 1 + rng.randrange(longest))) for k in range(many)])


def some_kept(rng, names="abcdefghij"):
    return rng.choice([[], [], rng.sample(names, 2), rng.sample(names, 5), ["zz", "a"]])


def some_tree(rng, reasons, kept, deep):
    form = rng.choice(("apart", "split", "split", "fast")) if deep and reasons else "apart"
    if form == "apart":
        return (form, tuple([rng.choice(reasons) for k in range(rng.randrange(1 + min(3, len(reasons))))]))
    reason = rng.choice(reasons)
    if form == "fast":
        return (form, reason)
    free = [name for name in reason if name not in kept]
    cases = [some_tree(rng, [one for one in reasons if name not in one], kept, deep - 1) for name in free]
    return (form, reason, tuple(cases))


def spoiled(tree, reasons):
    """Trees that are as this one but at one place."""
    told = [NONE, ("fast", reasons[0]), ("fast", ("x", "y")), ("apart", (("x",),))]
    if tree[0] == "apart":
        told.extend([("apart", tree[1][:k] + tree[1][k + 1:]) for k in range(len(tree[1]))])
        told.extend([("apart", tree[1] + (reason,)) for reason in reasons])
        told.extend([("apart", tree[1][1:] + (reason,)) for reason in reasons])
    if tree[0] == "fast":
        told.extend([("fast", reason) for reason in reasons])
    if tree[0] == "split":
        told.extend([("split", tree[1], tree[2][1:]), ("split", tree[1], tree[2] + tree[2][:1]),
                     ("split", tree[1], tuple(reversed(tree[2]))), ("split", ("x", "y"), tree[2])])
        told.extend([("split", reason, tree[2]) for reason in reasons])
        for k, case in enumerate(tree[2]):
            told.extend([("split", tree[1], tree[2][:k] + (one,) + tree[2][k + 1:]) for one in spoiled(case, reasons)])
    return told


class Shows(unittest.TestCase, Shapes):
    def told(self, tree, reasons, budget, kept, wanted):
        before = copy.deepcopy((tree, reasons, kept))
        self.assertIs(shows(tree, reasons, budget, kept), wanted, (tree, reasons, budget, kept))
        self.same((tree, reasons, kept), before)

    def least(self, tree, reasons, kept, budget):
        """It shows it for this budget, for less, and for no more."""
        for fewer in [one for one in (-3, -1, 0, budget - 1, budget) if one <= budget]:
            self.told(tree, reasons, fewer, kept, True)
        for more in range(budget + 1, budget + 4):
            self.told(tree, reasons, more, kept, False)

    def never(self, tree, reasons, kept):
        for budget in range(-3, 6):
            self.told(tree, reasons, budget, kept, False)

    def test_apart(self):
        self.least(("apart", ABC), ABC, [], 2)
        self.least(("apart", ABC[:2]), ABC, [], 1)
        self.least(("apart", ABC[1:2]), ABC, [], 0)
        self.least(("apart", (ABC[2], ABC[0])), ABC, [], 1)
        self.least(NONE, ABC, [], -1)
        self.least(NONE, (), [], -1)
        self.least(NONE, ((),), ["a"], -1)
        self.least(("apart", ((),)), ((),), [], 0)

    def test_not_apart(self):
        self.never(("apart", PAIRS[:2]), PAIRS, [])
        self.never(("apart", PAIRS), PAIRS, [])
        # Not of the reasons.
        self.never(("apart", (("x",),)), ABC, [])
        self.never(("apart", (("b", "a"),)), ABC, [])
        self.never(("apart", (("c",), ())), ABC, [])
        self.never(("apart", (("c",),)), (), [])
        # Not each once.
        self.never(("apart", (("c",), ("c",))), ABC, [])
        self.never(("apart", (("c",), ("c",))), ABC, ["c"])
        self.never(("apart", ((), ())), ((),), [])

    def test_a_kept_name_in_common(self):
        self.least(("apart", PAIRS[:2]), PAIRS, ["a"], 1)
        self.never(("apart", PAIRS[:2]), PAIRS, ["b", "c", "z"])
        self.never(("apart", PAIRS), PAIRS, ["a", "b"])
        self.least(("apart", PAIRS), PAIRS, ["a", "b", "c"], 2)
        self.least(("apart", PAIRS[1:]), PAIRS, ["c", "z"], 1)

    def test_fast(self):
        for budget in (-2, -1, 0, 1, 4, 1000):
            self.told(("fast", ("c",)), ABC, budget, ["c"], True)
            self.told(("fast", ("a", "b")), ABC, budget, ["b", "a", "z"], True)
            self.told(("fast", ()), ((),), budget, [], True)
            self.told(("fast", ("c",)), ABC, budget, [], False)
            self.told(("fast", ("a", "b")), ABC, budget, ["a"], False)
            self.told(("fast", ("x",)), ABC, budget, ["x"], False)
            self.told(("fast", ("b", "a")), ABC, budget, ["a", "b"], False)
            self.told(("fast", ()), ABC, budget, ["a"], False)

    def test_split(self):
        one = ("apart", (("b", "c"),))
        self.least(("split", ("a", "b"), (one, ("apart", (("a", "c"),)))), PAIRS, [], 1)
        self.least(("split", ("a", "b"), (NONE, NONE)), PAIRS, [], 0)
        self.least(("split", ("a", "b"), (one, NONE)), PAIRS, [], 0)
        # The cases stand in the order of the reason's names.
        self.never(("split", ("a", "b"), (("apart", (("a", "c"),)), one)), PAIRS, [])
        # Just as many cases as names.
        self.never(("split", ("a", "b"), (one,)), PAIRS, [])
        self.never(("split", ("a", "b"), (one, ("apart", (("a", "c"),)), NONE)), PAIRS, [])
        self.never(("split", ("a", "b"), ()), PAIRS, [])
        # One of the reasons.
        self.never(("split", ("a", "x"), (one, NONE)), PAIRS, [])
        self.never(("split", ("b", "a"), (NONE, NONE)), PAIRS, [])

    def test_a_case_has_only_the_reasons_without_its_name(self):
        self.never(("split", ("a", "b"), (("apart", (("a", "c"),)), NONE)), PAIRS, [])
        self.never(("split", ("a", "b"), (("split", ("a", "b"), (NONE, NONE)), NONE)), PAIRS, [])
        self.never(("split", ("a", "b"), (("fast", ("a", "c")), NONE)), PAIRS, ["c"])

    def test_splits_within_splits(self):
        # All pairs of four names: three are needed.
        four = tuple(itertools.combinations("abcd", 2))
        inner = {"a": ("split", ("b", "c"), (("apart", (("c", "d"),)), ("apart", (("b", "d"),)))),
                 "b": ("split", ("a", "c"), (("apart", (("c", "d"),)), ("apart", (("a", "d"),))))}
        self.least(("split", ("a", "b"), (inner["a"], inner["b"])), four, [], 2)

    def test_kept_names_have_no_case(self):
        self.least(("split", ("a", "b"), (("apart", (("b", "c"),)),)), PAIRS, ["b"], 1)
        self.never(("split", ("a", "b"), (("apart", (("b", "c"),)), NONE)), PAIRS, ["b"])
        # All are kept: there is no case to show.
        for budget in (-1, 0, 3):
            self.told(("split", ("a", "b"), ()), PAIRS, budget, ["a", "b"], True)
            self.told(("split", (), ()), ((),), budget, [], True)
            self.told(("split", ("a", "b"), (NONE,)), PAIRS, budget, ["a", "b"], False)

    def test_ten_within_one_another(self):
        reasons = tuple([(f"n{k:02}",) for k in range(12)])
        tree = ("apart", reasons[9:])
        for k in range(8, -1, -1):
            tree = ("split", reasons[k], (tree,))
        self.least(tree, reasons, [], 11)

    def test_many_reasons(self):
        reasons = tuple([(f"n{k:04}", f"x{k % 7}") for k in range(2000)])
        self.least(("apart", reasons), reasons, [f"x{k}" for k in range(7)], 1999)
        self.least(("apart", reasons[:7]), reasons, [], 6)

    def test_some_trees(self):
        rng = random.Random(48)
        told = {True: 0, False: 0}
        for k in range(3000):
            reasons, kept = some_reasons(rng, 1 + rng.randrange(7), 3, "abcdef"), some_kept(rng, "abcdef")
            tree, budget = some_tree(rng, reasons, kept, rng.randrange(4)), rng.randrange(-1, 3)
            wanted = shows_slowly(tree, reasons, budget, kept)
            self.told(tree, reasons, budget, kept, wanted)
            told[wanted] += 1
            if wanted:
                many = least_many(reasons, kept)
                self.assertTrue(many is None or many > budget)
        self.assertGreater(min(told.values()), 300)

    def test_trees_spoiled_at_one_place(self):
        rng = random.Random(49)
        bad = 0
        for k in range(200):
            reasons, kept = some_reasons(rng, 2 + rng.randrange(8), 3, "abcdefg"), some_kept(rng, "abcdefg")
            names, tree = fewest(reasons, 4, kept)
            budget = 4 if names is None else len(names) - 1
            for other in spoiled(tree, reasons):
                wanted = shows_slowly(other, reasons, budget, kept)
                self.told(other, reasons, budget, kept, wanted)
                bad += not wanted
        self.assertGreater(bad, 1000)


class Fewest(unittest.TestCase, Shapes):
    def told(self, reasons, most, kept):
        before = copy.deepcopy((reasons, kept))
        told = fewest(reasons, most, kept)
        self.same((reasons, kept), before)
        self.assertIs(told.__class__, tuple)
        names, tree = told
        if names is None:
            self.assertIs(shows_slowly(tree, reasons, most, kept), True)
            self.assertIs(shows(tree, reasons, most, kept), True)
            return None
        self.assertIs(names.__class__, tuple)
        self.assertEqual(list(names), sorted(set(names)))
        self.assertTrue(strikes(names, reasons))
        self.assertFalse(set(names) & set(kept))
        self.assertLessEqual(len(names), most)
        if names == ():
            self.assertIsNone(tree)
        else:
            self.assertIs(shows_slowly(tree, reasons, len(names) - 1, kept), True)
            self.assertIs(shows(tree, reasons, len(names) - 1, kept), True)
        return len(names)

    def test_no_reasons_at_all(self):
        for most in range(5):
            for kept in ([], ["a"]):
                self.same(fewest((), most, kept), ((), None))

    def test_the_reason_without_names(self):
        for most in range(5):
            for kept in ([], ["a"]):
                self.assertIsNone(self.told(((),), most, kept))

    def test_a_few(self):
        for reasons, most, kept, wanted in (
                ((("a",),), 0, [], None), ((("a",),), 1, [], 1), ((("a",),), 4, [], 1), ((("a",),), 4, ["a"], None),
                (ABC, 0, [], None), (ABC, 2, [], None), (ABC, 3, [], 3), (ABC, 4, [], 3), (ABC, 4, ["c"], None),
                (ABC, 4, ["a"], 3), (ABC, 4, ["a", "b"], None), (PAIRS, 1, [], None), (PAIRS, 2, [], 2),
                (PAIRS, 4, ["a"], 2), (PAIRS, 4, ["a", "b"], None), (PAIRS, 4, ["z"], 2),
                ((("a", "b"), ("a", "c"), ("a", "d")), 4, [], 1), ((("a", "b"), ("a", "c"), ("a", "d")), 4, ["a"], 3),
                (tuple([(name,) for name in "abcde"]), 4, [], None), (tuple([(name,) for name in "abcd"]), 4, [], 4),
                (tuple(itertools.combinations("abcde", 2)), 4, [], 4),
                (tuple(itertools.combinations("abcde", 2)), 3, [], None),
                (tuple(itertools.combinations("abcdef", 3)), 4, [], 4)):
            self.same(self.told(reasons, most, kept), wanted, (reasons, most, kept))

    def test_which_names(self):
        self.same(fewest((("a",), ("b",)), 2, [])[0], ("a", "b"))
        self.same(fewest((("b", "z"), ("a", "z")), 2, [])[0], ("z",))
        self.same(fewest((("b", "z"), ("a", "z")), 2, ["z"])[0], ("a", "b"))
        self.same(fewest((("a", "b"),), 1, ["a"])[0], ("b",))

    def test_all_names_kept_some_kept_others_kept(self):
        rng = random.Random(50)
        for k in range(60):
            reasons = some_reasons(rng, 6, 4)
            names = sorted({name for reason in reasons for name in reason})
            self.assertIsNone(self.told(reasons, 4, names))
            self.same(self.told(reasons, 4, ["yy", "zz"]), self.told(reasons, 4, []))

    def test_against_all_smaller_sets(self):
        rng = random.Random(51)
        seen = {}
        for k in range(500):
            reasons = some_reasons(rng, 1 + rng.randrange(12), 1 + rng.randrange(4), "abcdefghijkl"[:4 + k % 9])
            kept, most = some_kept(rng), rng.randrange(5)
            many = least_many(reasons, kept)
            wanted = None if many is None or many > most else many
            self.same(self.told(reasons, most, kept), wanted, (reasons, most, kept))
            seen[wanted] = seen.get(wanted, 0) + 1
        self.assertEqual(set(seen), {None, 1, 2, 3, 4})

    def test_twenty_reasons_of_six_names(self):
        rng = random.Random(52)
        for k in range(6):
            names = [f"n{j:02}" for j in range(14 + 8 * k)]
            reasons = least_of([tuple(rng.sample(names, 6)) for j in range(20)])
            many = self.told(reasons, 4, [])
            if many is not None:
                self.assertIsNone(self.told(reasons, many - 1, []))
        self.assertIsNone(self.told(tuple(itertools.combinations("abcdef", 3)), 3, []))

    def test_what_is_done_behind(self):
        kept = ["a"]
        told = fewest(PAIRS, 4, kept)
        wanted = copy.deepcopy(told)
        kept.extend(["b", "c"])
        self.same(told, wanted)
        self.assertIsNone(fewest(PAIRS, 4, kept)[0])
