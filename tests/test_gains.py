import copy
import random
import unittest

from tests.helper import (FIRST, HEADS, WAYS, A, B, Counted, E, R, S, Shapes, Z, filled, joined_slowly, put_slowly,
                          ring, sample_tables, slowly, some_questions, table, together_slowly, told_of)
from whence.answers import answer
from whence.errors import NoColumn, NoFit, NoTable, Twice
from whence.gains import gain, with_more
from whence.picks import passes
from whence.questions import degree
from whence.sums import Sums
from whence.tables import together
from whence.ways import Costs, Counts, Rounds, Truths

IS_A = ("is", "a", 1)
N, M = table("n"), table("m")
BEFORE = {"R": (("a", "b"), {(1, 1): 2, (1, 2): 3}), "S": (("b", "c"), {(1, 7): 10}), "E": (("b",), {}),
          "Z": ((), {(): 3})}
MORE = {"R": (("b", "a"), {(1, 1): 5, (1, 9): 7}), "S": (("b", "c"), {(2, 7): 100})}
R_GAIN = {(1, 1): 5, (9, 1): 7}
# One step along edges.
G = table("G")
ON = ("keep", ("x", "y"), ("join", ("call", "y", "z", N), ("call", "x", "z", G)))


def gain_slowly(way, question, tables, more):
    """Point 41, read off word by word."""
    word = question[0]
    if word == "table":
        head = tables[question[1]][0]
        return together_slowly(way, (head, {}), more.get(question[1], (head, {})))
    if word == "ring":
        return ring_gain_slowly(way, question, tables, more)
    parts = question[FIRST.get(word, 2):]
    gains = [gain_slowly(way, part, tables, more) for part in parts]
    head, rows = gains[0]
    if word == "pick":
        return (head, {row: mark for row, mark in rows.items() if passes(question[1], head, row)})
    if word == "keep":
        return (question[1], put_slowly(way, [(told_of(head, row, question[1]), rows[row]) for row in rows]))
    if word == "call":
        return (tuple([question[2] if column == question[1] else column for column in head]), rows)
    if word == "put":
        return together_slowly(way, gains[0], gains[1])
    one, other = [slowly(way, part, tables)[0] for part in parts]
    three = [joined_slowly(way, gains[0], other), joined_slowly(way, one, gains[1]), joined_slowly(way, *gains)]
    return (three[0][0], put_slowly(way, [pair for told in three for pair in told[1].items()]))


def ring_gain_slowly(way, ring, tables, more):
    start, told = slowly(way, ring[3], tables)[0], gain_slowly(way, ring[3], tables, more)
    first, before = told, start
    for k in range(ring[2]):
        here = {**tables, ring[1]: before}
        step = gain_slowly(way, ring[4], here, {**more, ring[1]: told})
        before = together_slowly(way, start, slowly(way, ring[4], here)[0])
        told = together_slowly(way, first, step)
    return told


def some_more(rng, way, marks):
    """More for some of the sample's tables, the columns in some order."""
    told = {}
    for name in rng.sample(sorted(HEADS), rng.randrange(len(HEADS) + 1)):
        head = tuple(rng.sample(HEADS[name], len(HEADS[name])))
        rows = filled(way, marks, head, 2 + rng.randrange(3))[1]
        told[name] = (head, {row: rows[row] for row in rng.sample(list(rows), min(len(rows), rng.randrange(4)))})
    return told


class WithMore(unittest.TestCase, Shapes):
    def told(self, way, tables, more, wanted):
        before = copy.deepcopy((tables, more))
        self.same(with_more(way, tables, more), wanted)
        self.same((tables, more), before)

    def test_more_comes(self):
        wanted = {**BEFORE, "R": (("a", "b"), {(1, 1): 7, (1, 2): 3, (9, 1): 7}),
                  "S": (("b", "c"), {(1, 7): 10, (2, 7): 100})}
        self.told(Counts(), BEFORE, MORE, wanted)
        self.told(Counts(), BEFORE, {"E": (("b",), {(4,): 1}), "Z": ((), {(): 2})},
                  {**BEFORE, "E": (("b",), {(4,): 1}), "Z": ((), {(): 5})})

    def test_by_the_way_s_plus(self):
        tables, more = {"R": (("a",), {(1,): 4, (2,): 1})}, {"R": (("a",), {(1,): 2, (3,): 9})}
        self.told(Costs(), tables, more, {"R": (("a",), {(1,): 2, (2,): 1, (3,): 9})})
        self.told(Rounds(6), tables, {"R": (("a",), {(1,): 2, (2,): 2})}, {"R": (("a",), {(2,): 3})})
        self.told(Sums(), {"R": (("a",), {(1,): A})}, {"R": (("a",), {(1,): B})},
                  {"R": (("a",), {(1,): ((("a",), 1), (("b",), 1))})})

    def test_no_more_at_all(self):
        self.told(Counts(), BEFORE, {}, BEFORE)
        self.told(Counts(), BEFORE, {"R": (("b", "a"), {})}, BEFORE)
        self.told(Counts(), {}, {}, {})

    def test_each_is_a_new_table(self):
        tables, more = copy.deepcopy(BEFORE), copy.deepcopy(MORE)
        told = with_more(Counts(), tables, more)
        for name in told:
            told[name][1].clear()
        told.clear()
        self.same((tables, more), (BEFORE, MORE))
        told = with_more(Counts(), tables, more)
        wanted = copy.deepcopy(told)
        for handed in (tables, more):
            for name in handed:
                handed[name][1].clear()
            handed.clear()
        self.same(told, wanted)

    def test_what_is_refused_by_the_names_sorted(self):
        wrong, right = (("a",), {(1,): 1}), (("a", "b"), {(1, 1): 1})
        for ask in (with_more, lambda way, tables, more: gain(way, table("nowhere"), tables, more)):
            self.refuses(NoTable, ask, Counts(), BEFORE, {"X": right})
            self.refuses(NoTable, ask, Counts(), BEFORE, {"X": ((), {})})
            self.refuses(NoFit, ask, Counts(), BEFORE, {"R": wrong})
            self.refuses(NoFit, ask, Counts(), BEFORE, {"R": (("a", "b", "c"), {})})
            self.refuses(NoFit, ask, Counts(), BEFORE, {"E": (("a",), {})})
            self.refuses(NoFit, ask, Counts(), BEFORE, {"Z": (("a",), {})})
            self.refuses(NoFit, ask, Counts(), BEFORE, {"X": right, "R": wrong})
            self.refuses(NoFit, ask, Counts(), BEFORE, {"R": wrong, "X": right})
            self.refuses(NoTable, ask, Counts(), BEFORE, {"R": wrong, "A": right})
            self.refuses(NoTable, ask, Counts(), BEFORE, {"A": right, "R": wrong})
            self.refuses(NoTable, ask, Counts(), BEFORE, {"A": right, "R": right, "S": wrong})


class EachWord(unittest.TestCase, Shapes):
    def told(self, way, question, wanted, more=MORE):
        before = copy.deepcopy((BEFORE, more))
        told = gain(way, question, BEFORE, more)
        self.same(told, wanted)
        self.same((BEFORE, more), before)
        self.same(answer(way, question, with_more(way, BEFORE, more)),
                  together(way, answer(way, question, BEFORE), told))

    def test_table(self):
        self.told(Counts(), R, (("a", "b"), R_GAIN))
        self.told(Counts(), Z, ((), {}))
        self.told(Counts(), E, (("b",), {}))
        self.told(Counts(), Z, ((), {(): 2}), {"Z": ((), {(): 2})})

    def test_what_is_there_already_is_gained_too(self):
        self.told(Truths(), R, (("a", "b"), {(1, 1): True}), {"R": (("a", "b"), {(1, 1): True})})
        self.told(Costs(), R, (("a", "b"), {(1, 1): 9}), {"R": (("a", "b"), {(1, 1): 9})})

    def test_pick_keep_call(self):
        self.told(Counts(), ("pick", IS_A, R), (("a", "b"), {(1, 1): 5}))
        self.told(Counts(), ("pick", ("same", "a", "b"), R), (("a", "b"), {(1, 1): 5}))
        self.told(Counts(), ("keep", ("b",), R), (("b",), {(1,): 12}))
        self.told(Counts(), ("keep", (), R), ((), {(): 12}))
        self.told(Costs(), ("keep", (), R), ((), {(): 5}))
        self.told(Rounds(12), ("keep", (), R), ((), {}))
        self.told(Counts(), ("call", "a", "x", R), (("x", "b"), R_GAIN))

    def test_put(self):
        back = ("keep", ("b", "a"), R)
        self.told(Counts(), ("put", R, back), (("a", "b"), {(1, 1): 10, (9, 1): 14}))
        self.told(Counts(), ("put", back, R), (("b", "a"), {(1, 1): 10, (1, 9): 14}))
        self.told(Counts(), ("put", R, ("call", "c", "a", S)), (("a", "b"), {(1, 1): 5, (9, 1): 7, (7, 2): 100}))

    def test_join(self):
        # One's gain with the other before, one before with the other's gain, and both gains.
        self.told(Counts(), ("join", R, S), (("a", "b", "c"), {(1, 1, 7): 50, (9, 1, 7): 70, (1, 2, 7): 300}))
        self.told(Counts(), ("join", R, R), (("a", "b"), {(1, 1): 2 * 5 + 5 * 2 + 5 * 5, (9, 1): 49}))
        self.told(Costs(), ("join", R, R), (("a", "b"), {(1, 1): 7, (9, 1): 14}))
        self.told(Counts(), ("join", E, R), (("b", "a"), {}))
        self.told(Counts(), ("join", Z, R), (("a", "b"), {(1, 1): 15, (9, 1): 21}))
        self.told(Counts(), ("join", Z, R), (("a", "b"), {(1, 1): 2 * 2 + 3 * 5 + 2 * 5, (1, 2): 2 * 3, (9, 1): 35}),
                  {"Z": ((), {(): 2}), "R": (("a", "b"), R_GAIN)})
        self.told(Rounds(35), ("join", R, R), (("a", "b"), {(1, 1): 10, (9, 1): 14}))

    def test_ring(self):
        edges = {"G": (("x", "y"), {(1, 2): 1, (2, 3): 1})}
        more = {"G": (("y", "x"), {(4, 3): 1})}
        rounds = [{(3, 4): 1}, {(3, 4): 1, (2, 4): 1}, {(3, 4): 1, (2, 4): 1, (1, 4): 1}]
        for times, wanted in ((0, 0), (1, 1), (2, 2), (3, 2), (8, 2)):
            self.same(gain(Counts(), ring(times, G, ON), edges, more), (("x", "y"), rounds[wanted]))
            self.same(gain(Counts(), ring(times, G, ON), edges, {}), (("x", "y"), {}))

    def test_eight_rounds_six_within_one_another(self):
        tables, more = {"R": (("a", "b"), {(1, 2): 1})}, {"R": (("a", "b"), {(1, 2): 2, (5, 5): 1})}
        way, question = Counted(), R
        for k in range(6):
            question = ring(8, R, question, f"n{k}")
        self.same(gain(way, question, tables, more), (("a", "b"), {(1, 2): 14, (5, 5): 7}))
        # A round that is as the one before is not reckoned further: eight to the sixth would be far more.
        self.assertLess(way.asked, 2000)

    def test_a_step_that_doubles(self):
        tables, more = {"R": (("a",), {(1,): 1})}, {"R": (("a",), {(1,): 2, (2,): 1})}
        # From n to 1 + 2n before, from n to 3 + 2n behind.
        for times in range(9):
            self.same(gain(Counts(), ring(times, R, ("put", N, N)), tables, more),
                      (("a",), {(1,): 2 * (2 ** (times + 1) - 1), (2,): 2 ** (times + 1) - 1}))

    def test_a_round_gains_from_what_it_was_before(self):
        tables, more = {"R": ((), {(): 1})}, {"R": ((), {(): 1})}
        # Before: 1, 2, 5; behind: 2, 6, 38.
        for times, wanted in ((0, 1), (1, 4), (2, 33)):
            self.same(gain(Counts(), ring(times, R, ("join", N, N)), tables, more), ((), {(): wanted}))

    def test_more_that_is_not_asked(self):
        self.told(Counts(), E, (("b",), {}))
        self.told(Counts(), ("join", E, Z), (("b",), {}))
        self.told(Counts(), ring(0, E, ("keep", ("b",), ("join", N, R))), (("b",), {}))
        self.told(Counts(), ring(3, E, ("keep", ("b",), ("join", N, R))), (("b",), {}))

    def test_no_more_at_all(self):
        for question in (R, ("join", R, S), ("put", R, R), ("keep", ("a",), R), ring(3, R, N)):
            head = answer(Counts(), question, BEFORE)[0]
            self.told(Counts(), question, (head, {}), {})
            self.told(Counts(), question, (head, {}), {"R": (("b", "a"), {}), "S": (("c", "b"), {})})


class Gain(unittest.TestCase, Shapes):
    def holds(self, rng, question, way, marks):
        tables, more = sample_tables(way, marks), some_more(rng, way, marks)
        before = copy.deepcopy((tables, more))
        told = gain(way, question, tables, more)
        self.same(told, gain_slowly(way, question, tables, more), question)
        behind = answer(way, question, with_more(way, tables, more))
        self.same(together(way, answer(way, question, tables), told), behind, question)
        self.same((tables, more), before)

    def test_many_words(self):
        rng = random.Random(41)
        for k, question in enumerate(some_questions(41, 300, 5)):
            for way, marks in WAYS[k % 4::4]:
                self.holds(rng, question, way, marks)

    def test_rings_within_rings(self):
        rng = random.Random(42)
        back = ("keep", ("b", "a"), R)
        inner = ring(2, ("put", N, back), ("keep", ("b", "a"), ("join", M, S)), "m")
        start = ring(2, R, ("keep", ("b", "a"), ("join", M, S)), "m")
        for question in (ring(2, R, inner), ring(2, R, ring(1, N, ("join", M, N), "m")), ring(3, start, N),
                         ring(1, R, ring(2, ring(2, N, R, "k"), ("join", M, N), "m")), ring(0, R, inner),
                         ring(3, R, ring(0, N, ("join", M, M), "m"))):
            self.assertLessEqual(degree(question), 7)
            for way, marks in WAYS:
                self.holds(rng, question, way, marks)

    def test_what_was_told_is_the_asker_s_own(self):
        tables, more = copy.deepcopy(BEFORE), copy.deepcopy(MORE)
        for question in (R, E, ("put", R, R), ("call", "a", "x", R), ring(0, R, N), ring(2, R, N)):
            told = gain(Counts(), question, tables, more)
            wanted = copy.deepcopy(told)
            told[1].clear()
            self.same((tables, more), (BEFORE, MORE))
            told = gain(Counts(), question, tables, more)
            self.same(told, wanted)
            for handed in (tables, more):
                for name in handed:
                    handed[name][1].clear()
            self.same(told, wanted)
            tables, more = copy.deepcopy(BEFORE), copy.deepcopy(MORE)

    def test_what_is_refused(self):
        self.refuses(NoTable, gain, Counts(), table("X"), BEFORE, MORE)
        self.refuses(NoTable, gain, Counts(), N, BEFORE, {})
        self.refuses(NoColumn, gain, Counts(), ("pick", ("is", "z", 1), R), BEFORE, MORE)
        self.refuses(NoColumn, gain, Counts(), ("keep", ("a", "a"), R), BEFORE, MORE)
        self.refuses(NoFit, gain, Counts(), ("put", R, S), BEFORE, {})
        self.refuses(Twice, gain, Counts(), ring(0, R, R, "S"), BEFORE, MORE)
        self.refuses(NoFit, gain, Counts(), ring(0, R, S), BEFORE, MORE)

    def test_more_is_looked_at_ahead_of_the_question(self):
        wrong = {"E": (("a",), {})}
        self.refuses(NoFit, gain, Counts(), table("X"), BEFORE, wrong)
        self.refuses(NoTable, gain, Counts(), ("put", R, S), BEFORE, {"X": ((), {})})
        self.refuses(NoTable, gain, Counts(), ring(0, R, R, "S"), BEFORE, {"n": (("a", "b"), {})})

    def test_a_deep_question(self):
        question = R
        for k in range(95):
            question = ("put", R, ("keep", ("b", "a"), question))
        told = gain(Counts(), question, BEFORE, MORE)
        self.same(told, (("a", "b"), {(1, 1): 96 * 5, (9, 1): 96 * 7}))

