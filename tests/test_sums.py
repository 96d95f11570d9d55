import unittest

from tests.helper import GREAT, HUGE, PLAIN, Counted, Shapes
from whence.errors import NoName, WhenceError
from whence.sums import Sums, bare, names_in, struck, times_over, worth
from whence.ways import Costs, Counts, Lows, Pairs, Rounds, Seers, Truths

A, B, C = bare("a"), bare("b"), bare("c")


class SumsAre(unittest.TestCase, Shapes):
    def test_nought_one_and_bare(self):
        self.same(Sums().nought, ())
        self.same(Sums().one, (((), 1),))
        self.same(bare("a"), ((("a",), 1),))
        self.same(bare(""), ((("",), 1),))
        self.same(bare("a b~"), ((("a b~",), 1),))

    def test_plus_adds_the_numbers_of_each_product(self):
        way = Sums()
        self.same(way.plus(A, B), ((("a",), 1), (("b",), 1)))
        self.same(way.plus(B, A), ((("a",), 1), (("b",), 1)))
        self.same(way.plus(A, A), ((("a",), 2),))
        self.same(way.plus(way.one, way.one), (((), 2),))
        left = (((), 2), (("a", "b"), 3), (("b",), 1))
        right = ((("a",), 4), (("a", "b"), GREAT), (("c",), 1))
        self.same(way.plus(left, right), (((), 2), (("a",), 4), (("a", "b"), GREAT + 3), (("b",), 1), (("c",), 1)))

    def test_times_puts_names_together_and_multiplies(self):
        way = Sums()
        self.same(way.times(B, A), ((("a", "b"), 1),))
        self.same(way.times(A, A), ((("a", "a"), 1),))
        self.same(way.times((((), 3),), ((("a",), GREAT),)), ((("a",), 3 * GREAT),))
        self.same(way.times(((("b",), 2),), ((("a", "c"), 5),)), ((("a", "b", "c"), 10),))

    def test_times_adds_alike_products(self):
        way = Sums()
        both = way.plus(A, B)
        self.same(way.times(both, both), ((("a", "a"), 1), (("a", "b"), 2), (("b", "b"), 1)))
        left = ((("a",), 2), (("a", "b"), 3))
        right = (((), 5), (("b",), 7))
        self.same(way.times(left, right), ((("a",), 10), (("a", "b"), 29), (("a", "b", "b"), 21)))

    def test_great_numbers(self):
        way = Sums()
        self.same(way.plus(((("a",), HUGE),), ((("a",), HUGE),)), ((("a",), 2 * HUGE),))
        self.same(way.times(((("a",), HUGE),), ((("a",), HUGE),)), ((("a", "a"), 7 ** 9000),))

    def test_marks(self):
        wanted = [(), (((), 1),), (((), 1), (("a",), 2)), ((("a",), HUGE),), ((("a", "a"), 1),), ((("a", "b"), 1),),
                  ((("a",), 1), (("a", "b"), 1), (("b",), 1))]
        self.marks_are(Sums(), wanted)

    def test_marks_of_great_size(self):
        long = tuple([(("n",) * 59 + (f"n{k:04}",), k + 1) for k in range(2000)])
        self.assertIs(Sums().is_mark(long), True)
        self.assertIs(Sums().is_mark(long + long[-1:]), False)
        self.assertIs(Sums().is_mark(long[1:] + long[:1]), False)
        self.assertIs(Sums().is_mark(list(long)), False)

    def test_laws(self):
        way = Sums()
        some = [A, B, way.plus(A, B), way.times(A, A), (((), GREAT), (("a", "b"), 2)), ((("b",), HUGE),)]
        self.laws_hold(way, some)


class TimesOver(unittest.TestCase, Shapes):
    def test_none(self):
        for way, mark in ((Truths(), True), (Counts(), 5), (Costs(), 5), (Costs(), 0), (Lows(2), (1, 2)),
                          (Seers(["a"]), ("a",)), (Rounds(5), 3), (Sums(), A)):
            self.same(times_over(way, 0, mark), way.nought)

    def test_some(self):
        for many in range(1, 40):
            for way, mark in ((Truths(), True), (Truths(), False), (Counts(), 5), (Rounds(6), 4), (Costs(), 7),
                              (Costs(), None), (Lows(3), (1, 2)), (Lows(20), (4,)), (Seers(["a", "b"]), ("b",)),
                              (Pairs(Rounds(4), Counts()), (3, 2)), (Sums(), (((), 1), (("a", "b"), 3)))):
                wanted = way.nought
                for k in range(many):
                    wanted = way.plus(wanted, mark)
                self.same(times_over(way, many, mark), wanted)

    def test_so_many_that_only_doubling_will_do(self):
        self.same(times_over(Counts(), GREAT, GREAT), GREAT * GREAT)
        self.same(times_over(Counts(), HUGE, 3), 3 * HUGE)
        self.same(times_over(Rounds(10), GREAT, 3), (GREAT * 3) % 10)
        self.same(times_over(Rounds(1000), HUGE, 999), -HUGE % 1000)
        self.same(times_over(Truths(), HUGE, True), True)
        self.same(times_over(Costs(), HUGE, 8), 8)
        self.same(times_over(Costs(), HUGE, None), None)
        self.same(times_over(Lows(3), HUGE, (1, 2)), (1, 1, 1))
        self.same(times_over(Seers(["a", "b"]), HUGE, ("b",)), ("b",))
        self.same(times_over(Sums(), HUGE, ((("a",), 2), (("b",), 1))), ((("a",), 2 * HUGE), (("b",), HUGE)))
        self.same(times_over(Pairs(Counts(), Costs()), HUGE, (2, 5)), (2 * HUGE, 5))

    def test_a_long_sum_so_many_times(self):
        long = tuple([((f"n{k:04}",), k + 1) for k in range(2000)])
        self.same(times_over(Sums(), HUGE, long), tuple([(product, many * HUGE) for product, many in long]))

    def test_it_is_done_by_doubling(self):
        way = Counted()
        self.same(times_over(way, GREAT, 3), 3 * GREAT)
        self.assertLess(way.asked, 500)


class Worth(unittest.TestCase, Shapes):
    def test_a_sum_is_reckoned_in_a_way(self):
        some = (((), 2), (("a", "a", "b"), 3), (("b",), 1))
        self.same(worth(some, Counts(), {"a": 2, "b": 5}), 2 + 3 * 20 + 5)
        self.same(worth(some, Rounds(7), {"a": 2, "b": 5}), 67 % 7)
        self.same(worth(some, Costs(), {"a": 2, "b": 5}), 0)
        self.same(worth(some[1:], Costs(), {"a": 2, "b": 5}), 5)
        self.same(worth(some[1:2], Costs(), {"a": 2, "b": 5}), 9)
        self.same(worth(some[1:2], Costs(), {"a": None, "b": 5}), None)
        self.same(worth(some[1:], Truths(), {"a": True, "b": False}), False)
        self.same(worth(some[1:], Truths(), {"a": False, "b": True}), True)
        self.same(worth(some[1:], Lows(3), {"a": (1,), "b": (2, 4)}), (2, 4, 4))
        self.same(worth(some[1:], Lows(6), {"a": (1,), "b": (2, 4)}), (2, 4, 4, 4, 4, 6))
        people = Seers(["x", "y", "z"])
        self.same(worth(((("a", "b"), 4), (("c",), 1)), people, {"a": ("x", "y"), "b": ("y", "z"), "c": ()}), ("y",))

    def test_the_products_of_one_sum_add_up(self):
        some = ((("a",), 1), (("b",), 1), (("c",), 1))
        self.same(worth(some, Rounds(3), {"a": 1, "b": 1, "c": 1}), 0)
        self.same(worth(some, Costs(), {"a": None, "b": 9, "c": 4}), 4)
        for many in range(1, 20):
            long = tuple([((f"n{k:02}",), k + 1) for k in range(many)])
            self.same(worth(long, Counts(), {f"n{k:02}": 10 ** k for k in range(many)}),
                      sum([(k + 1) * 10 ** k for k in range(many)]))

    def test_none(self):
        for way in (Truths(), Counts(), Rounds(4), Costs(), Seers(["a"]), Lows(2), Pairs(Costs(), Truths()), Sums()):
            self.same(worth((), way, {}), way.nought)
            self.same(worth((((), 1),), way, {}), way.one)
        self.same(worth((((), 3),), Counts(), {}), 3)
        self.same(worth((((), 3),), Lows(2), {}), (0, 0))

    def test_a_name_that_stands_several_times(self):
        some = ((("a",) * 60, 1),)
        self.same(worth(some, Counts(), {"a": 3}), 3 ** 60)
        self.same(worth(some, Costs(), {"a": GREAT}), 60 * GREAT)
        self.same(worth(some, Sums(), {"a": bare("b")}), ((("b",) * 60, 1),))

    def test_great_numbers(self):
        some = ((("a",), HUGE), (("b",), GREAT))
        self.same(worth(some, Counts(), {"a": 2, "b": HUGE}), (2 + GREAT) * HUGE)
        self.same(worth(some, Truths(), {"a": True, "b": False}), True)
        self.same(worth(some, Costs(), {"a": 3, "b": 2}), 2)
        self.same(worth(some, Sums(), {"a": A, "b": A}), ((("a",), HUGE + GREAT),))

    def test_with_bare_names_a_sum_comes_to_itself(self):
        some = (((), 2), (("a", "a", "b"), HUGE), (("b",), 1))
        self.same(worth(some, Sums(), {"a": A, "b": B}), some)

    def test_it_goes_with_plus_and_times(self):
        way, marks = Pairs(Rounds(6), Lows(2)), {"a": (2, (1, 2)), "b": (3, (0, 0)), "c": (5, ())}
        left, right = ((("a",), 3), (("b", "c"), 2)), (((), 1), (("a", "c"), 2), (("b",), 4))
        worths = (worth(left, way, marks), worth(right, way, marks))
        self.same(worth(Sums().plus(left, right), way, marks), way.plus(worths[0], worths[1]))
        self.same(worth(Sums().times(left, right), way, marks), way.times(worths[0], worths[1]))

    def test_a_name_without_a_mark_is_refused(self):
        some = ((("a",), 1), (("a", "b"), 1))
        for marks in ({}, {"a": 2}, {"b": 2}, {"a": 0}, {"b": 0}, {"a": 0, "c": 1}, {"A": 1, "b": 1}):
            with self.assertRaises(NoName):
                worth(some, Counts(), marks)

    def test_whatever_the_other_marks_are(self):
        for thing in PLAIN:
            for marks in ({"a": thing}, {"b": thing}):
                with self.assertRaises(NoName):
                    worth(((("a", "b"), 1),), Counts(), marks)
                with self.assertRaises(NoName):
                    worth(((("a",), 1), (("b",), 1)), Lows(2), marks)

    def test_the_refusal_is_any_refusal(self):
        for wider in (WhenceError, ValueError):
            with self.assertRaises(wider):
                worth(A, Counts(), {})

    def test_what_else_stands_in_the_marks_is_not_looked_at(self):
        self.same(worth(A, Counts(), {"a": 2, "b": None, "c": "x", "": []}), 2)

    def test_the_marks_stay(self):
        marks = {"a": 2, "b": 3}
        self.same(worth(((("a", "b"), 2),), Counts(), marks), 12)
        self.same(marks, {"a": 2, "b": 3})
        marks["a"] = 5
        self.same(worth(((("a", "b"), 2),), Counts(), marks), 30)


class Names(unittest.TestCase, Shapes):
    SOME = (((), 2), (("a", "a", "c"), 3), (("b", "c"), 1), (("c",), 4))

    def test_names_are_sorted_each_once(self):
        self.same(names_in(self.SOME), ["a", "b", "c"])
        self.same(names_in(((("b",), 1), (("b", "z"), 1), (("c", "d"), 1))), ["b", "c", "d", "z"])
        self.same(names_in(()), [])
        self.same(names_in((((), 5),)), [])

    def test_a_told_list_is_the_askers_own(self):
        told = names_in(self.SOME)
        told.append("x")
        self.same(names_in(self.SOME), ["a", "b", "c"])

    def test_struck(self):
        self.same(struck(self.SOME, "a"), (((), 2), (("b", "c"), 1), (("c",), 4)))
        self.same(struck(self.SOME, "b"), (((), 2), (("a", "a", "c"), 3), (("c",), 4)))
        self.same(struck(self.SOME, "c"), (((), 2),))
        self.same(struck(self.SOME, "d"), self.SOME)
        self.same(struck((), "a"), ())
        self.same(struck(A, "a"), ())
        self.same(struck(((("ab",), 1),), "a"), ((("ab",), 1),))

    def test_to_strike_is_to_put_nought(self):
        marks = {"a": A, "b": (), "c": C}
        self.same(struck(self.SOME, "b"), worth(self.SOME, Sums(), marks))
