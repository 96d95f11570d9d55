"""What several test files share: samples of marks, the laws of ways, and a strict look at what is told."""

GREAT = 10 ** 59 + 7
HUGE = 7 ** 4500

# Plain things of all kinds; each way takes just a few of them for marks.
PLAIN = [
    True, False, None, -1, 0, 1, 2, 3, 4, 5, 6, 7, 19, 20, 21, -GREAT, GREAT, HUGE, "", "a", "b", "0", " ", "~",
    [], [0], [0, 0], [True], ["a"], [[]], [()], {}, {"a": 1}, {0: 0}, {(): 1},
    (), (0,), (1,), (-1,), (0, 0), (0, 1), (1, 0), (True,), (False,), (None,), (0, True), (0, None), (0, "a"),
    (0, 1, 2), (5, 5, 5), (3, 1, 2), (HUGE, HUGE), ("a",), ("b",), ("a", "b"), ("b", "a"), ("a", "a"), ("a", "z"),
    ("a", 1), ("a", None), ("a", True), ("a", ["b"]), ("ab",), ("z",), ("",), ((),), ((), ()), ([],), ({},), ((), 1),
    (None, None), (True, 0), (False, 0), (True, None), (False, False), (1, False), (0, (0,)), (True, (0, 0)),
    [True, 0], (True, 0, 0), (((), 1),), (((), 0),), (((), -1),), (((), True),), (((), "1"),), (((), None),),
    (((), 1), ((), 1)), (((), 1), ((), 2)), (((), 1), (("a",), 2)), ((("a",), 2), ((), 1)), ((("a",), HUGE),),
    ((("a", "a"), 1),), ((("a", "b"), 1),), ((("b", "a"), 1),), ((("a", 1), 1),), (([], 1),), ((["a"], 1),),
    (("a", 1),), [((), 1)], (((), [1]),), (((), 1, 1),), (((),),), (({}, 1),), (((None,), 1),), ((((),), 1),),
    ((("a",), 1), (("a", "b"), 1), (("b",), 1)), ((("a",), 1), (("b",), 1), (("a", "b"), 1)),
    ((("b",), 1), (("a",), 1)), ((("a",), 1), ("b", 1)), ((("a",), 1), None), ((("a",), 1), [("b",), 1]),
    (("a",),), (("b",),), (("a",), ("b",)), (("b",), ("a",)), (("a",), ("a",)), (("a",), ("a", "b")), ((), ("a",)),
    (("a", "b"), ("a", "c")), (("a", "b"), ("a", "c"), ("b", "c")), (("a", "c"), ("a", "b")), (("b", "a"),),
    (("a", "a"),), (["a"],), (("a",), ["b"]), (("a",), "b"), (("a",), None), (("a",), 1), ((1,),), ((True,),),
    ((("a",),),), (("a", "b", "c"), ("b",)), (("a", "b"), ("b", "c"), ("b",)), {("a",): True}, [("a",)],
]


def shape(thing):
    """The thing with its kinds, so that 1 and True, or lists and tuples, are never taken for one another."""
    if isinstance(thing, (list, tuple)):
        return (thing.__class__.__name__, [shape(part) for part in thing])
    if isinstance(thing, dict):
        return ("dict", {key: (shape(key), shape(thing[key])) for key in thing})
    return (thing.__class__.__name__, thing)


class Shapes:
    """Mixed into a test case: equal, and of the same kinds throughout."""

    def same(self, told, wanted, said=None):
        self.assertEqual(shape(told), shape(wanted), said)

    def marks_are(self, way, wanted):
        """Of all plain things, just these are marks."""
        shapes = [shape(mark) for mark in wanted]
        for mark in wanted:
            self.assertIs(way.is_mark(mark), True, mark if mark != HUGE else "HUGE")
        for thing in PLAIN:
            self.assertIs(way.is_mark(thing), shape(thing) in shapes)

    def laws_hold(self, way, marks):
        """All that point 6 says of all ways, over these marks."""
        self.assertIs(way.is_mark(way.nought), True)
        self.assertIs(way.is_mark(way.one), True)
        every = list(marks) + [way.nought, way.one]
        for a in every:
            self.assertIs(way.is_mark(a), True)
            for zero in (way.plus(way.nought, a), way.plus(a, way.nought), way.times(way.one, a), way.times(a, way.one)):
                self.same(zero, a)
            self.same(way.times(way.nought, a), way.nought)
            self.same(way.times(a, way.nought), way.nought)
            for b in every:
                self.pair_laws(way, a, b, every)

    def pair_laws(self, way, a, b, every):
        plus, times = way.plus(a, b), way.times(a, b)
        self.assertIs(way.is_mark(plus), True)
        self.assertIs(way.is_mark(times), True)
        self.same(plus, way.plus(b, a))
        self.same(times, way.times(b, a))
        for c in every:
            self.same(way.plus(plus, c), way.plus(a, way.plus(b, c)))
            self.same(way.times(times, c), way.times(a, way.times(b, c)))
            self.same(way.times(c, plus), way.plus(way.times(c, a), way.times(c, b)))
