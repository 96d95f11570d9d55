import copy
import unittest

from tests.helper import A, B, C, GREAT, SEERS, WAYS, Shapes, put_slowly
from whence.errors import NoName
from whence.sums import Sums, bare, struck, worth
from whence.values import struck_in, valued
from whence.ways import Costs, Counts, Lows, Pairs, Rounds, Truths

AB = Sums().times(A, B)
ONE = (("x", "y"), {(1, "u"): Sums().plus(A, AB), (2, "u"): B, (3, "v"): Sums().times(AB, AB), (4, "v"): C})


class Valued(unittest.TestCase, Shapes):
    def test_ordinary(self):
        self.same(valued(ONE, Counts(), {"a": 2, "b": 3, "c": 1}),
                  (("x", "y"), {(1, "u"): 8, (2, "u"): 3, (3, "v"): 36, (4, "v"): 1}))
        self.same(valued(ONE, Costs(), {"a": 2, "b": 3, "c": 0}),
                  (("x", "y"), {(1, "u"): 2, (2, "u"): 3, (3, "v"): 10, (4, "v"): 0}))
        self.same(valued(ONE, Truths(), {"a": True, "b": True, "c": True}),
                  (("x", "y"), {(1, "u"): True, (2, "u"): True, (3, "v"): True, (4, "v"): True}))
        self.same(valued(ONE, SEERS, {"a": ("p", "q"), "b": ("q", "r"), "c": ("r",)}),
                  (("x", "y"), {(1, "u"): ("p", "q"), (2, "u"): ("q", "r"), (3, "v"): ("q",), (4, "v"): ("r",)}))
        self.same(valued(ONE, Lows(2), {"a": (1, 5), "b": (0,), "c": (7, 7)}),
                  (("x", "y"), {(1, "u"): (1, 1), (2, "u"): (0,), (3, "v"): (2, 6), (4, "v"): (7, 7)}))

    def test_noughts_are_left_out(self):
        self.same(valued(ONE, Counts(), {"a": 0, "b": 3, "c": 0}), (("x", "y"), {(2, "u"): 3}))
        self.same(valued(ONE, Costs(), {"a": 0, "b": None, "c": 1}), (("x", "y"), {(1, "u"): 0, (4, "v"): 1}))
        self.same(valued(ONE, Truths(), {"a": False, "b": False, "c": False}), (("x", "y"), {}))
        self.same(valued(ONE, Rounds(2), {"a": 1, "b": 1, "c": 1}),
                  (("x", "y"), {(2, "u"): 1, (3, "v"): 1, (4, "v"): 1}))
        self.same(valued(ONE, Pairs(Counts(), Costs()), {"a": (0, 1), "b": (1, None), "c": (0, None)}),
                  (("x", "y"), {(1, "u"): (0, 1), (2, "u"): (1, None)}))

    def test_each_way(self):
        for way, marks in WAYS:
            told = {"a": marks[0], "b": marks[-1], "c": marks[len(marks) // 2]}
            wanted = put_slowly(way, [(row, worth(some, way, told)) for row, some in ONE[1].items()])
            self.same(valued(ONE, way, told), (("x", "y"), wanted))

    def test_without_columns_or_rows(self):
        self.same(valued(((), {(): A}), Counts(), {"a": 4}), ((), {(): 4}))
        self.same(valued(((), {(): A}), Counts(), {"a": 0}), ((), {}))
        self.same(valued((("x",), {}), Counts(), {}), (("x",), {}))

    def test_great_numbers(self):
        one = (("x",), {(1,): ((("a",), GREAT ** 3),)})
        self.same(valued(one, Counts(), {"a": 2}), (("x",), {(1,): 2 * GREAT ** 3}))
        self.same(valued(one, Costs(), {"a": 2}), (("x",), {(1,): 2}))

    def test_a_name_that_is_no_key_is_refused(self):
        for marks in ({}, {"a": 1}, {"a": 1, "b": 1}, {"b": 1, "c": 1}, {"a": 0, "c": 0}, {"A": 1, "b": 1, "c": 1}):
            self.refuses(NoName, valued, ONE, Counts(), marks)

    def test_it_is_refused_whatever_the_other_marks_are(self):
        for other in (0, None, "no mark", [], -1):
            self.refuses(NoName, valued, ONE, Costs(), {"a": other, "b": other})
            self.refuses(NoName, valued, ONE, Counts(), {"c": other, "b": other})

    def test_what_else_stands_there_is_not_looked_at(self):
        self.same(valued((("x",), {(1,): A}), Counts(), {"a": 1, "z": "no mark"}), (("x",), {(1,): 1}))

    def test_it_is_a_new_table(self):
        one, marks = copy.deepcopy(ONE), {"a": 1, "b": 1, "c": 1}
        told = valued(one, Counts(), marks)
        told[1].clear()
        self.same(one, ONE)
        self.same(marks, {"a": 1, "b": 1, "c": 1})
        told = valued(one, Counts(), marks)
        one[1].clear()
        marks.clear()
        self.same(told, (("x", "y"), {(1, "u"): 2, (2, "u"): 1, (3, "v"): 1, (4, "v"): 1}))


class StruckIn(unittest.TestCase, Shapes):
    def test_ordinary(self):
        self.same(struck_in(ONE, "b"), (("x", "y"), {(1, "u"): A, (4, "v"): C}))
        self.same(struck_in(ONE, "a"), (("x", "y"), {(2, "u"): B, (4, "v"): C}))
        self.same(struck_in(ONE, "c"), (("x", "y"), {row: ONE[1][row] for row in ((1, "u"), (2, "u"), (3, "v"))}))

    def test_a_name_that_does_not_stand_there(self):
        for name in ("d", "", "A", "ab"):
            self.same(struck_in(ONE, name), ONE)

    def test_the_product_of_none_stays(self):
        one = (("x",), {(1,): Sums().plus(Sums().one, A), (2,): Sums().one})
        self.same(struck_in(one, "a"), (("x",), {(1,): Sums().one, (2,): Sums().one}))

    def test_without_columns_or_rows(self):
        self.same(struck_in(((), {(): A}), "a"), ((), {}))
        self.same(struck_in(((), {(): A}), "b"), ((), {(): A}))
        self.same(struck_in((("x",), {}), "a"), (("x",), {}))

    def test_it_is_a_new_table(self):
        one = copy.deepcopy(ONE)
        told = struck_in(one, "d")
        told[1].clear()
        self.same(one, ONE)
        told = struck_in(one, "d")
        one[1].clear()
        self.same(told, ONE)

    def test_it_is_to_put_nought_for_the_name(self):
        for way, marks in WAYS:
            told = {"a": marks[0], "b": marks[-1], "c": marks[len(marks) // 2]}
            for name in told:
                gone = {**told, name: way.nought}
                self.same(valued(struck_in(ONE, name), way, told), valued(ONE, way, gone))
                self.same(valued(struck_in(ONE, name), way, gone), valued(ONE, way, gone))

    def test_it_is_row_by_row_as_a_sum_is_struck(self):
        wanted = {row: struck(some, "a") for row, some in ONE[1].items() if struck(some, "a") != ()}
        self.same(struck_in(ONE, "a"), (ONE[0], wanted))
        self.same(struck_in((("x",), {(1,): bare("a b")}), "a"), (("x",), {(1,): bare("a b")}))
