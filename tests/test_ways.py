import unittest

from tests.helper import GREAT, HUGE, PLAIN, Shapes, shape
from whence.errors import NoWay, WhenceError
from whence.ways import Costs, Counts, Lows, Pairs, Rounds, Seers, Truths


class TruthsAre(unittest.TestCase, Shapes):
    def test_nought_and_one(self):
        self.same(Truths().nought, False)
        self.same(Truths().one, True)

    def test_plus_and_times(self):
        way = Truths()
        for a in (False, True):
            for b in (False, True):
                self.same(way.plus(a, b), bool(a + b))
                self.same(way.times(a, b), bool(a * b))

    def test_marks(self):
        self.marks_are(Truths(), [True, False])

    def test_laws(self):
        self.laws_hold(Truths(), [True, False])


class CountsAre(unittest.TestCase, Shapes):
    def test_nought_and_one(self):
        self.same(Counts().nought, 0)
        self.same(Counts().one, 1)

    def test_plus_and_times(self):
        self.same(Counts().plus(3, 4), 7)
        self.same(Counts().times(3, 4), 12)
        self.same(Counts().plus(GREAT, GREAT + 1), 2 * 10 ** 59 + 15)
        self.same(Counts().times(HUGE, HUGE), 7 ** 9000)

    def test_marks(self):
        self.marks_are(Counts(), [0, 1, 2, 3, 4, 5, 6, 7, 19, 20, 21, GREAT, HUGE])

    def test_laws(self):
        self.laws_hold(Counts(), [0, 1, 2, 5, GREAT, HUGE])


class RoundsAre(unittest.TestCase, Shapes):
    def test_nought_and_one(self):
        for many in (2, 3, GREAT):
            self.same(Rounds(many).nought, 0)
            self.same(Rounds(many).one, 1)

    def test_plus_and_times(self):
        self.same(Rounds(6).plus(4, 5), 3)
        self.same(Rounds(6).plus(2, 4), 0)
        self.same(Rounds(6).plus(1, 2), 3)
        self.same(Rounds(6).times(5, 5), 1)
        self.same(Rounds(6).times(2, 3), 0)
        self.same(Rounds(6).times(2, 2), 4)
        self.same(Rounds(2).plus(1, 1), 0)
        self.same(Rounds(GREAT).times(GREAT - 1, GREAT - 1), 1)

    def test_marks(self):
        self.marks_are(Rounds(6), [0, 1, 2, 3, 4, 5])
        self.marks_are(Rounds(2), [0, 1])
        self.marks_are(Rounds(GREAT), [0, 1, 2, 3, 4, 5, 6, 7, 19, 20, 21])
        self.marks_are(Rounds(HUGE), [0, 1, 2, 3, 4, 5, 6, 7, 19, 20, 21, GREAT])

    def test_laws(self):
        for many in (2, 3, 4, 6):
            self.laws_hold(Rounds(many), list(range(many)))
        self.laws_hold(Rounds(GREAT), [0, 1, 2, GREAT - 2, GREAT - 1, GREAT // 2])

    def test_two_ways_stand_beside_one_another(self):
        three, four = Rounds(3), Rounds(4)
        self.same(three.plus(2, 2), 1)
        self.same(four.plus(2, 2), 0)

    def test_whatever_else_is_refused(self):
        for thing in PLAIN:
            if shape(thing)[0] == "int" and thing >= 2:
                Rounds(thing)
            else:
                with self.assertRaises(NoWay):
                    Rounds(thing)

    def test_a_number_of_any_length_is_refused_so(self):
        for many in (-HUGE, -HUGE * HUGE):
            with self.assertRaises(NoWay):
                Rounds(many)


class CostsAre(unittest.TestCase, Shapes):
    def test_nought_and_one(self):
        self.same(Costs().nought, None)
        self.same(Costs().one, 0)

    def test_plus_is_the_lesser(self):
        way = Costs()
        self.same(way.plus(3, 5), 3)
        self.same(way.plus(5, 3), 3)
        self.same(way.plus(0, HUGE), 0)
        self.same(way.plus(None, 5), 5)
        self.same(way.plus(5, None), 5)
        self.same(way.plus(0, None), 0)
        self.same(way.plus(None, 0), 0)
        self.same(way.plus(None, None), None)

    def test_times_is_the_sum(self):
        way = Costs()
        self.same(way.times(3, 5), 8)
        self.same(way.times(0, 5), 5)
        self.same(way.times(HUGE, HUGE), 2 * HUGE)
        self.same(way.times(None, 5), None)
        self.same(way.times(0, None), None)
        self.same(way.times(None, None), None)

    def test_marks(self):
        self.marks_are(Costs(), [None, 0, 1, 2, 3, 4, 5, 6, 7, 19, 20, 21, GREAT, HUGE])

    def test_laws(self):
        self.laws_hold(Costs(), [None, 0, 1, 2, 7, GREAT, HUGE])


class SeersAre(unittest.TestCase, Shapes):
    def test_nought_and_one(self):
        way = Seers(["b", "a", "c"])
        self.same(way.nought, ())
        self.same(way.one, ("a", "b", "c"))

    def test_plus_and_times(self):
        way = Seers(["a", "b", "c", "d"])
        self.same(way.plus(("b", "d"), ("a", "b")), ("a", "b", "d"))
        self.same(way.times(("b", "d"), ("a", "b")), ("b",))
        self.same(way.times(("b", "d"), ("a", "c")), ())
        self.same(way.times(("a", "b", "d"), ("a", "b", "c")), ("a", "b"))

    def test_no_people(self):
        way = Seers([])
        self.same(way.nought, ())
        self.same(way.one, ())
        self.marks_are(way, [()])
        self.laws_hold(way, [()])

    def test_people_told_several_times_are_as_if_once(self):
        way = Seers(["b", "a", "b", "b", "a"])
        self.same(way.one, ("a", "b"))
        self.marks_are(way, [(), ("a",), ("b",), ("a", "b")])

    def test_marks(self):
        self.marks_are(Seers(["b", "a"]), [(), ("a",), ("b",), ("a", "b")])
        self.marks_are(Seers(["a"]), [(), ("a",)])
        self.marks_are(Seers(["", "z", "a"]), [(), ("",), ("a",), ("z",), ("a", "z"), ("", "a", "z")])

    def test_laws(self):
        some = [(), ("a",), ("b",), ("c",), ("a", "b"), ("a", "c"), ("b", "c"), ("a", "b", "c")]
        self.laws_hold(Seers(["c", "a", "b"]), some)

    def test_the_list_stays_and_may_be_changed_later(self):
        people = ["b", "a", "b"]
        way = Seers(people)
        self.same(people, ["b", "a", "b"])
        people.append("c")
        people.remove("a")
        self.same(way.one, ("a", "b"))
        self.assertIs(way.is_mark(("c",)), False)
        self.assertIs(way.is_mark(("a",)), True)
        self.same(way.times(("a", "b"), way.one), ("a", "b"))

    def test_sixty_people(self):
        people = [f"p{k}" for k in range(60)]
        way = Seers(list(reversed(people)))
        self.same(way.one, tuple(sorted(people)))
        self.same(way.times(way.one, ("p1", "p59")), ("p1", "p59"))


class LowsAre(unittest.TestCase, Shapes):
    def test_nought_and_one(self):
        for many in (1, 3, 20):
            self.same(Lows(many).nought, ())
            self.same(Lows(many).one, (0,))

    def test_plus(self):
        way = Lows(3)
        self.same(way.plus((1, 4), (2, 3)), (1, 2, 3))
        self.same(way.plus((5,), (2,)), (2, 5))
        self.same(way.plus((1, 1, 1), (0,)), (0, 1, 1))
        self.same(way.plus((4, 5, 6), ()), (4, 5, 6))

    def test_numbers_alike_come_as_often(self):
        self.same(Lows(5).plus((2, 2), (2, 3)), (2, 2, 2, 3))
        self.same(Lows(5).times((2, 2), (0, 0)), (2, 2, 2, 2))

    def test_times(self):
        self.same(Lows(3).times((1, 4), (2, 3)), (3, 4, 6))
        self.same(Lows(4).times((1, 4), (2, 3)), (3, 4, 6, 7))
        self.same(Lows(4).times((0, 10, 20), (0, 1)), (0, 1, 10, 11))
        self.same(Lows(4).times((1, 2), ()), ())

    def test_many_of_one_and_of_twenty(self):
        self.same(Lows(1).plus((3,), (2,)), (2,))
        self.same(Lows(1).times((3,), (2,)), (5,))
        twenty = tuple(range(0, 40, 2))
        self.same(Lows(20).plus(twenty, tuple(range(1, 41, 2))), tuple(range(20)))
        self.same(Lows(20).times(twenty, (0, 1)), tuple(range(20)))
        self.same(Lows(20).times((0,) * 20, (HUGE,) * 20), (HUGE,) * 20)

    def test_marks(self):
        self.marks_are(Lows(1), [(), (0,), (1,)])
        self.marks_are(Lows(2), [(), (0,), (1,), (0, 0), (0, 1), (HUGE, HUGE)])
        self.marks_are(Lows(20), [(), (0,), (1,), (0, 0), (0, 1), (0, 1, 2), (5, 5, 5), (HUGE, HUGE)])
        self.assertIs(Lows(20).is_mark((4,) * 20), True)
        self.assertIs(Lows(20).is_mark((4,) * 21), False)
        self.assertIs(Lows(20).is_mark([4] * 20), False)
        self.assertIs(Lows(20).is_mark((4,) * 19 + (3,)), False)

    def test_laws(self):
        self.laws_hold(Lows(1), [(), (0,), (1,), (5,), (HUGE,)])
        self.laws_hold(Lows(2), [(), (0,), (0, 0), (1, 1), (1, 3), (2,), (0, HUGE)])
        self.laws_hold(Lows(20), [(), (3,), (0, 0, 5), (1,) * 20, tuple(range(20)), (7, GREAT)])

    def test_whatever_else_is_refused(self):
        for thing in PLAIN:
            if shape(thing)[0] == "int" and thing >= 1:
                Lows(thing)
            else:
                with self.assertRaises(NoWay):
                    Lows(thing)

    def test_the_refusal_is_any_refusal(self):
        for wider in (WhenceError, ValueError):
            with self.assertRaises(wider):
                Lows(0)


class PairsAre(unittest.TestCase, Shapes):
    def test_nought_and_one(self):
        way = Pairs(Truths(), Costs())
        self.same(way.nought, (False, None))
        self.same(way.one, (True, 0))

    def test_plus_and_times_go_part_by_part(self):
        way = Pairs(Counts(), Costs())
        self.same(way.plus((2, 5), (3, 4)), (5, 4))
        self.same(way.times((2, 5), (3, 4)), (6, 9))
        self.same(way.plus((2, None), (0, 4)), (2, 4))
        self.same(way.times((2, None), (3, 4)), (6, None))
        other = Pairs(Costs(), Counts())
        self.same(other.plus((5, 2), (4, 3)), (4, 5))

    def test_marks(self):
        self.marks_are(Pairs(Truths(), Costs()), [(True, 0), (False, 0), (True, None)])
        self.marks_are(Pairs(Rounds(2), Truths()), [(0, True), (1, False)])
        self.marks_are(Pairs(Truths(), Lows(2)), [(True, (0, 0))])
        self.marks_are(Pairs(Counts(), Lows(1)), [(0, (0,))])
        self.marks_are(Pairs(Costs(), Costs()), [(0, 0), (0, 1), (1, 0), (0, None), (None, None), (HUGE, HUGE)])

    def test_pairs_within_pairs(self):
        way, mark, more = Counts(), 2, 3
        for depth in range(5):
            if depth % 2 == 0:
                way, mark, more = Pairs(way, Costs()), (mark, 1), (more, None)
            else:
                way, mark, more = Pairs(Rounds(5), way), (4, mark), (3, more)
        self.same(way.nought, ((0, ((0, ((0, None))), None)), None))
        self.same(way.one, ((1, ((1, ((1, 0))), 0)), 0))
        self.same(way.plus(mark, more), ((2, ((2, ((5, 1))), 1)), 1))
        self.same(way.times(mark, more), ((2, ((2, ((6, None))), None)), None))
        self.laws_hold(way, [mark, more])
        self.assertIs(way.is_mark(((4, ((4, ((True, 1))), 1)), 1)), False)
        self.assertIs(way.is_mark(((4, ((4, [2, 1]), 1)), 1)), False)

    def test_laws(self):
        self.laws_hold(Pairs(Rounds(4), Lows(2)), [(2, (1, 1)), (3, ()), (0, (0, 4)), (2, (0,))])
        self.laws_hold(Pairs(Seers(["a", "b"]), Truths()), [(("a",), True), (("b",), False), ((), True)])

    def test_noughts_of_one_part_are_not_nought(self):
        way = Pairs(Rounds(2), Rounds(3))
        self.same(way.plus((1, 1), (1, 1)), (0, 2))
        self.same(way.times((0, 1), (1, 2)), (0, 2))
