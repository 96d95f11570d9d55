import unittest

from tests.helper import GREAT, Shapes
from whence.errors import NoColumn, WhenceError
from whence.picks import columns_of, passes, test_called

IS_A = ("is", "a", 1)
IS_B = ("is", "b", "x")
SAME = ("same", "a", "c")
DEEP = ("or", ("and", ("not", ("is", "d", 0)), SAME), ("not", ("or", IS_B, ("same", "b", "b"))))


def deep(times, test):
    for k in range(times):
        test = ("not", test)
    return test


class ColumnsOf(unittest.TestCase, Shapes):
    def test_sorted_each_once(self):
        self.same(columns_of(IS_A), ["a"])
        self.same(columns_of(("same", "z", "b")), ["b", "z"])
        self.same(columns_of(("same", "b", "b")), ["b"])
        self.same(columns_of(("not", IS_B)), ["b"])
        self.same(columns_of(("and", IS_B, IS_A)), ["a", "b"])
        self.same(columns_of(("or", SAME, IS_A)), ["a", "c"])
        self.same(columns_of(DEEP), ["a", "b", "c", "d"])

    def test_values_are_no_columns(self):
        self.same(columns_of(("is", "a", "b")), ["a"])

    def test_columns_called_by_the_words(self):
        self.same(columns_of(("same", "not", "and")), ["and", "not"])
        self.same(columns_of(("not", ("is", "is", "same"))), ["is"])

    def test_a_told_list_is_the_askers_own(self):
        columns_of(DEEP).append("x")
        self.same(columns_of(DEEP), ["a", "b", "c", "d"])


class Passes(unittest.TestCase, Shapes):
    HEAD = ("a", "b", "c")

    def told(self, test, row, wanted):
        self.same(passes(test, self.HEAD, row), wanted, (test, row))

    def test_is(self):
        self.told(IS_A, (1, "x", 2), True)
        self.told(IS_A, (2, "x", 1), False)
        self.told(IS_B, (1, "x", 2), True)
        self.told(IS_B, (1, "X", 2), False)
        self.told(("is", "c", GREAT), (1, "x", 10 ** 59 + 7), True)

    def test_same(self):
        self.told(SAME, (1, "x", 1), True)
        self.told(SAME, (1, 1, 2), False)
        self.told(("same", "b", "b"), (1, 2, 3), True)
        self.told(("same", "c", "b"), (1, "x", "x"), True)

    def test_a_whole_number_and_a_text_are_never_equal(self):
        self.told(("is", "a", "1"), (1, "1", 1), False)
        self.told(("is", "b", 1), (1, "1", 1), False)
        self.told(("same", "a", "b"), (1, "1", 1), False)

    def test_not_and_or(self):
        for a in (1, 2):
            for b in ("x", "y"):
                row = (a, b, 0)
                self.told(("not", IS_A), row, a != 1)
                self.told(("and", IS_A, IS_B), row, a == 1 and b == "x")
                self.told(("or", IS_A, IS_B), row, a == 1 or b == "x")
                self.told(("not", ("and", IS_A, ("not", IS_B))), row, not (a == 1 and b != "x"))

    def test_the_heads_order_counts(self):
        self.same(passes(IS_A, ("b", "a"), (1, 2)), False)
        self.same(passes(IS_A, ("b", "a"), (2, 1)), True)

    def test_twenty_parts_ten_within_one_another(self):
        self.told(deep(9, IS_A), (1, 0, 0), False)
        self.told(("or", deep(8, IS_A), deep(8, IS_B)), (1, "y", 0), True)
        self.told(deep(40, IS_A), (1, 0, 0), True)

    def test_a_column_that_is_not_there_is_refused(self):
        no = ("is", "d", 1)
        for test in (no, ("same", "a", "d"), ("same", "d", "a"), ("not", no), ("and", IS_A, no), ("and", no, IS_A),
                     ("or", IS_A, no), ("or", no, IS_A), DEEP, ("and", ("not", IS_A), no)):
            for row in ((1, "x", 1), (2, "y", 3)):
                with self.assertRaises(NoColumn):
                    passes(test, self.HEAD, row)
        with self.assertRaises(NoColumn):
            passes(IS_A, (), ())
        with self.assertRaises(WhenceError):
            passes(IS_A, ("A",), (1,))


class TestCalled(unittest.TestCase, Shapes):
    def test_each_column_is_called_anew(self):
        self.same(test_called(IS_A, "a", "n"), ("is", "n", 1))
        self.same(test_called(SAME, "a", "n"), ("same", "n", "c"))
        self.same(test_called(SAME, "c", "n"), ("same", "a", "n"))
        self.same(test_called(("same", "a", "a"), "a", "n"), ("same", "n", "n"))
        self.same(test_called(("and", IS_A, SAME), "a", "n"), ("and", ("is", "n", 1), ("same", "n", "c")))
        self.same(test_called(("or", IS_B, ("not", IS_A)), "a", "n"), ("or", IS_B, ("not", ("is", "n", 1))))

    def test_others_stay(self):
        self.same(test_called(DEEP, "z", "n"), DEEP)
        self.same(test_called(DEEP, "a", "a"), DEEP)

    def test_values_and_words_stay(self):
        self.same(test_called(("is", "a", "a"), "a", "n"), ("is", "n", "a"))
        self.same(test_called(("is", "b", "a"), "a", "n"), ("is", "b", "a"))
        self.same(test_called(("not", ("is", "is", "is")), "is", "n"), ("not", ("is", "n", "is")))
        self.same(test_called(("not", IS_A), "not", "n"), ("not", IS_A))

    def test_new_may_stand_there_already(self):
        self.same(test_called(SAME, "a", "c"), ("same", "c", "c"))
