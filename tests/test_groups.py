import copy
import itertools
import unittest

from tests.helper import A, B, C, GREAT, HUGE, WAYS, Shapes, filled, put_slowly, sample_store, told_of
from whence.answers import answer
from whence.errors import NoColumn, NoName, NoNumber
from whence.groups import grouped, total, valued_groups
from whence.sums import Sums
from whence.ways import Costs, Counts, Lows, Rounds, Truths

ONE = (("a", "b", "c"), {(1, "u", 5): 2, (1, "u", 6): 3, (1, "v", 5): 5, (2, "v", 5): 7})


def grouped_slowly(way, one, keys, column):
    pairs = [((told_of(one[0], row, keys), told_of(one[0], row, (column,))[0]), mark) for row, mark in one[1].items()]
    groups = {}
    for (key, value), mark in put_slowly(way, pairs).items():
        groups.setdefault(key, {})[value] = mark
    return groups


class Grouped(unittest.TestCase, Shapes):
    def told(self, keys, column, wanted, way=Counts()):
        one = copy.deepcopy(ONE)
        self.same(grouped(way, one, keys, column), wanted)
        self.same(one, ONE)

    def test_one_key(self):
        self.told(("a",), "c", {(1,): {5: 7, 6: 3}, (2,): {5: 7}})
        self.told(("b",), "a", {("u",): {1: 5}, ("v",): {1: 5, 2: 7}})
        self.told(("a",), "c", {(1,): {5: 2, 6: 3}, (2,): {5: 7}}, Costs())

    def test_several_keys(self):
        self.told(("a", "b"), "c", {(1, "u"): {5: 2, 6: 3}, (1, "v"): {5: 5}, (2, "v"): {5: 7}})
        self.told(("b", "a"), "c", {("u", 1): {5: 2, 6: 3}, ("v", 1): {5: 5}, ("v", 2): {5: 7}})
        self.told(("c", "b"), "a", {(5, "u"): {1: 2}, (6, "u"): {1: 3}, (5, "v"): {1: 5, 2: 7}})

    def test_no_keys(self):
        self.told((), "c", {(): {5: 14, 6: 3}})
        self.told((), "b", {(): {"u": 5, "v": 12}})
        self.same(grouped(Counts(), (("a",), {}), (), "a"), {})

    def test_a_column_that_is_one_of_the_keys(self):
        self.told(("a",), "a", {(1,): {1: 10}, (2,): {2: 7}})
        self.told(("a", "c"), "c", {(1, 5): {5: 7}, (1, 6): {6: 3}, (2, 5): {5: 7}})

    def test_noughts_are_left_out_and_keys_that_have_none_but_noughts(self):
        one = (("a", "b", "c"), {(1, "u", 5): 2, (1, "u", 6): 3, (1, "v", 5): 5, (2, "v", 5): 6, (2, "u", 5): 1})
        self.same(grouped(Rounds(7), one, ("a",), "c"), {(1,): {6: 3}})
        self.same(grouped(Rounds(7), one, ("a",), "b"), {(1,): {"u": 5, "v": 5}, (2,): {"v": 6, "u": 1}})
        self.same(grouped(Rounds(7), one, ("c",), "b"), {(5,): {"u": 3, "v": 4}, (6,): {"u": 3}})
        self.same(grouped(Rounds(2), (("a", "b", "c"), {(1, 1, 1): 1, (1, 1, 2): 1}), ("a",), "b"), {})
        self.same(grouped(Rounds(2), (("a", "b", "c"), {(1, 1, k): 1 for k in range(3)}), ("a",), "b"), {(1,): {1: 1}})

    def test_a_number_and_a_text_stay_apart(self):
        one = (("a", "b"), {(1, 1): 1, ("1", 1): 2, (1, "1"): 3})
        self.same(grouped(Counts(), one, ("a",), "b"), {(1,): {1: 1, "1": 3}, ("1",): {1: 2}})

    def test_each_way(self):
        for way, marks in WAYS:
            one = filled(way, marks, ("x", "y", "z"), 5)
            for many in range(4):
                for keys in itertools.permutations(("x", "y", "z"), many):
                    for column in ("x", "y", "z"):
                        self.same(grouped(way, one, keys, column), grouped_slowly(way, one, keys, column))

    def test_refused(self):
        for one in (ONE, (ONE[0], {})):
            for keys, column in ((("d",), "a"), (("a", "a"), "c"), (("a", "d"), "c"), (("a",), "d"), ((), "d"),
                                 (("d",), "d"), (("a", "b", "a"), "c"), ((), "")):
                self.refuses(NoColumn, grouped, Counts(), one, keys, column)
        self.refuses(NoColumn, grouped, Counts(), ((), {(): 1}), (), "a")

    def test_what_is_told_is_the_askers_own(self):
        one = copy.deepcopy(ONE)
        told = grouped(Counts(), one, ("a",), "c")
        wanted = copy.deepcopy(told)
        one[1].clear()
        self.same(told, wanted)
        one = copy.deepcopy(ONE)
        told = grouped(Counts(), one, ("a",), "c")
        told[(1,)].clear()
        told.clear()
        self.same(one, ONE)
        self.same(grouped(Counts(), one, ("a",), "c"), wanted)


class ValuedGroups(unittest.TestCase, Shapes):
    GROUPS = {(1,): {5: Sums().plus(A, B), "u": Sums().times(A, A)}, (2,): {5: C}, (): {0: Sums().times(B, C)}}

    def told(self, way, marks, wanted):
        groups, handed = copy.deepcopy(self.GROUPS), dict(marks)
        self.same(valued_groups(groups, way, handed), wanted)
        self.same(groups, self.GROUPS)
        self.same(handed, marks)

    def test_in_several_ways(self):
        self.told(Counts(), {"a": 2, "b": 3, "c": 5}, {(1,): {5: 5, "u": 4}, (2,): {5: 5}, (): {0: 15}})
        self.told(Costs(), {"a": 2, "b": 3, "c": 5}, {(1,): {5: 2, "u": 4}, (2,): {5: 5}, (): {0: 8}})
        self.told(Truths(), {"a": True, "b": True, "c": True},
                  {(1,): {5: True, "u": True}, (2,): {5: True}, (): {0: True}})
        self.told(Lows(2), {"a": (2, 4), "b": (3,), "c": (0, 0)},
                  {(1,): {5: (2, 3), "u": (4, 6)}, (2,): {5: (0, 0)}, (): {0: (3, 3)}})

    def test_noughts_and_keys_without_any_are_left_out(self):
        self.told(Counts(), {"a": 0, "b": 3, "c": 0}, {(1,): {5: 3}})
        self.told(Costs(), {"a": None, "b": 0, "c": 1}, {(1,): {5: 0}, (2,): {5: 1}, (): {0: 1}})
        self.told(Rounds(2), {"a": 1, "b": 1, "c": 0}, {(1,): {"u": 1}})
        self.told(Truths(), {"a": False, "b": False, "c": False}, {})

    def test_of_none(self):
        self.same(valued_groups({}, Counts(), {}), {})

    def test_a_name_that_is_no_key_is_refused(self):
        for marks in ({}, {"a": 1, "b": 1}, {"b": 1, "c": 1}, {"a": 0, "c": 0}, {"a": "no mark", "b": None}):
            for way in (Counts(), Costs()):
                self.refuses(NoName, valued_groups, self.GROUPS, way, marks)

    def test_what_else_stands_there_is_not_looked_at(self):
        self.same(valued_groups({(): {1: A}}, Counts(), {"a": 1, "z": "no mark"}), {(): {1: 1}})

    def test_what_is_told_is_the_askers_own(self):
        groups, marks = copy.deepcopy(self.GROUPS), {"a": 1, "b": 1, "c": 1}
        told = valued_groups(groups, Counts(), marks)
        wanted = copy.deepcopy(told)
        groups[(1,)].clear()
        groups.clear()
        marks.clear()
        self.same(told, wanted)
        told[(1,)].clear()
        self.told(Counts(), {"a": 1, "b": 1, "c": 1}, wanted)

    def test_sums_then_marks_is_to_group_at_once(self):
        store = sample_store()
        question = ("join", ("join", ("table", "R"), ("table", "S")), ("table", "Z"))
        sums = answer(Sums(), question, store.named())
        for way, some in WAYS:
            marks = {name: some[k % len(some)] for k, name in enumerate(store.all_names())}
            flat = answer(way, question, store.marked(way, marks))
            for keys in ((), ("a",), ("c", "b"), ("a", "b", "c")):
                for column in ("a", "b", "c"):
                    self.same(valued_groups(grouped(Sums(), sums, keys, column), way, marks),
                              grouped(way, flat, keys, column))


class Total(unittest.TestCase, Shapes):
    def test_ordinary(self):
        self.same(total({5: 2, 7: 3}), 31)
        self.same(total({-5: 2, 7: 1, 0: 9}), -3)
        self.same(total({4: 0}), 0)
        self.same(total({HUGE: GREAT, 1: HUGE}), HUGE * GREAT + HUGE)

    def test_of_none(self):
        self.same(total({}), 0)

    def test_a_text_is_refused_whatever_its_count(self):
        for values in ({"u": 1}, {"u": 0}, {"": 0}, {"5": 2}, {5: 2, "u": 0}, {"u": 0, 5: 2}, {5: 2, "6": 3, 7: 4}):
            self.refuses(NoNumber, total, values)

    def test_of_groups(self):
        groups = grouped(Counts(), ONE, ("a",), "c")
        self.same({key: total(groups[key]) for key in groups}, {(1,): 53, (2,): 35})
        self.refuses(NoNumber, total, grouped(Counts(), ONE, (), "b")[()])
