"""What several test files share: samples of marks, of stores and of questions, the laws of ways, a slow reckoning to
hold the program against, and a strict look at what is told."""

import copy
import itertools
import random

from whence.errors import WhenceError
from whence.picks import passes
from whence.places import heads_at, part_at, places, with_part
from whence.questions import degree, head_of
from whence.reasons import Reasons
from whence.stores import Store
from whence.sums import Sums, bare
from whence.ways import Costs, Counts, Lows, Pairs, Rounds, Seers, Truths

GREAT = 10 ** 59 + 7
HUGE = 7 ** 4500

# Plain things of all kinds; each way takes just a few of them for marks.
PLAIN = [
    True, False, None, -1, 0, 1, 2, 3, 4, 5, 6, 7, 19, 20, 21, -GREAT, GREAT, HUGE, "", "a", "b", "0", " ", "~",
    [], [0], [0, 0], [True], ["a"], [[]], [()], {}, {"a": 1}, {0: 0}, {(): 1},
    (), (0,), (1,), (-1,), (0, 0), (0, 1), (1, 0), (True,), (False,), (None,), (0, True), (0, None), (0, "a"),
    (0, 1, 2), (5, 5, 5), (3, 1, 2), (HUGE, HUGE), ("a",), ("b",), ("a", "b"), ("b", "a"), ("a", "a"), ("a", "z"),
    ("a", 1), ("a", None), ("a", True), ("a", ["b"]), ("ab",), ("z",), ("",), ((),), ((), ()), ([],), ({},), ((), 1),
    (None, None), (True, 0), (False, 0), (True, None), (False, False), (1, False), (0, (0,)), (True, (0, 0)),
    [True, 0], (True, 0, 0), (((), 1),), (((), 0),), (((), -1),), (((), True),), (((), "1"),), (((), None),),
    (((), 1), ((), 1)), (((), 1), ((), 2)), (((), 1), (("a",), 2)), ((("a",), 2), ((), 1)), ((("a",), HUGE),),
    ((("a", "a"), 1),), ((("a", "b"), 1),), ((("b", "a"), 1),), ((("a", 1), 1),), (([], 1),), ((["a"], 1),),
    (("a", 1),), [((), 1)], (((), [1]),), (((), 1, 1),), (((),),), (({}, 1),), (((None,), 1),), ((((),), 1),),
    ((("a",), 1), (("a", "b"), 1), (("b",), 1)), ((("a",), 1), (("b",), 1), (("a", "b"), 1)),
    ((("b",), 1), (("a",), 1)), ((("a",), 1), ("b", 1)), ((("a",), 1), None), ((("a",), 1), [("b",), 1]),
    (("a",),), (("b",),), (("a",), ("b",)), (("b",), ("a",)), (("a",), ("a",)), (("a",), ("a", "b")), ((), ("a",)),
    (("a", "b"), ("a", "c")), (("a", "b"), ("a", "c"), ("b", "c")), (("a", "c"), ("a", "b")), (("b", "a"),),
    (("a", "a"),), (["a"],), (("a",), ["b"]), (("a",), "b"), (("a",), None), (("a",), 1), ((1,),), ((True,),),
    ((("a",),),), (("a", "b", "c"), ("b",)), (("a", "b"), ("b", "c"), ("b",)), {("a",): True}, [("a",)],
]


A, B, C = bare("a"), bare("b"), bare("c")
SEERS = Seers(["p", "q", "r"])

# Ways with marks that are not nought, and some by which plus or times of two such come to nought.
WAYS = [
    (Truths(), [True]),
    (Counts(), [1, 2, GREAT]),
    (Rounds(2), [1]),
    (Rounds(4), [1, 2, 3]),
    (Rounds(6), [2, 3, 4]),
    (Costs(), [0, 4, 7]),
    (SEERS, [("p",), ("q",), ("p", "r")]),
    (Lows(2), [(0,), (1, 1), (2, 5)]),
    (Pairs(Rounds(2), SEERS), [(1, ("p",)), (0, ("q",)), (1, ())]),
    (Sums(), [A, B, Sums().plus(A, C)]),
    (Reasons(), [(("a",),), (("b",), ("c",)), ((),)]),
]
VALUES = (1, "1", 2)


def filled(way, marks, head, skip):
    """A table with some of all rows over a few values."""
    pairs = []
    for k, row in enumerate(itertools.product(VALUES, repeat=len(head))):
        if k % skip != 1:
            pairs.append((row, marks[(k + skip) % len(marks)]))
    return (head, dict(pairs))


def put_slowly(way, pairs):
    rows = {}
    for row, mark in pairs:
        rows[row] = way.plus(rows.get(row, way.nought), mark)
    return {row: mark for row, mark in rows.items() if mark != way.nought}


def told_of(head, row, columns):
    return tuple([row[head.index(column)] for column in columns])


def joined_slowly(way, one, other):
    shared = [column for column in one[0] if column in other[0]]
    more = [column for column in other[0] if column not in one[0]]
    pairs = []
    for row, mark in one[1].items():
        for partner, there in other[1].items():
            if told_of(one[0], row, shared) == told_of(other[0], partner, shared):
                pairs.append((row + told_of(other[0], partner, more), way.times(mark, there)))
    return (one[0] + tuple(more), put_slowly(way, pairs))


def shape(thing):
    """The thing with its kinds, so that 1 and True, or lists and tuples, are never taken for one another."""
    if isinstance(thing, (list, tuple)):
        return (thing.__class__.__name__, [shape(part) for part in thing])
    if isinstance(thing, dict):
        return ("dict", {key: (shape(key), shape(thing[key])) for key in thing})
    return (thing.__class__.__name__, thing)


class Shapes:
    """Mixed into a test case: equal, and of the same kinds throughout."""

    def same(self, told, wanted, said=None):
        self.assertEqual(shape(told), shape(wanted), said)

    def refuses(self, error, ask, *handed):
        """Refused with just that class, and nothing that was handed in is changed."""
        before = copy.deepcopy([thing for thing in handed if isinstance(thing, (dict, list, tuple))])
        with self.assertRaises(ValueError) as caught:
            ask(*handed)
        self.assertIs(caught.exception.__class__, error)
        self.assertIsInstance(caught.exception, WhenceError)
        self.assertEqual([thing for thing in handed if isinstance(thing, (dict, list, tuple))], before)

    def marks_are(self, way, wanted):
        """Of all plain things, just these are marks."""
        shapes = [shape(mark) for mark in wanted]
        for mark in wanted:
            self.assertIs(way.is_mark(mark), True, mark if mark != HUGE else "HUGE")
        for thing in PLAIN:
            self.assertIs(way.is_mark(thing), shape(thing) in shapes)

    def laws_hold(self, way, marks):
        """All that point 6 says of all ways, over these marks."""
        self.assertIs(way.is_mark(way.nought), True)
        self.assertIs(way.is_mark(way.one), True)
        every = list(marks) + [way.nought, way.one]
        for a in every:
            self.assertIs(way.is_mark(a), True)
            for zero in (way.plus(way.nought, a), way.plus(a, way.nought), way.times(way.one, a), way.times(a, way.one)):
                self.same(zero, a)
            self.same(way.times(way.nought, a), way.nought)
            self.same(way.times(a, way.nought), way.nought)
            for b in every:
                self.pair_laws(way, a, b, every)

    def pair_laws(self, way, a, b, every):
        plus, times = way.plus(a, b), way.times(a, b)
        self.assertIs(way.is_mark(plus), True)
        self.assertIs(way.is_mark(times), True)
        self.same(plus, way.plus(b, a))
        self.same(times, way.times(b, a))
        for c in every:
            self.same(way.plus(plus, c), way.plus(a, way.plus(b, c)))
            self.same(way.times(times, c), way.times(a, way.times(b, c)))
            self.same(way.times(c, plus), way.plus(way.times(c, a), way.times(c, b)))


class Counted(Counts):
    """Counts that tell how often they are asked."""

    def __init__(self):
        Counts.__init__(self)
        self.asked = 0

    def plus(self, a, b):
        self.asked += 1
        return Counts.plus(self, a, b)

    def times(self, a, b):
        self.asked += 1
        return Counts.times(self, a, b)


# Five tables; one of no columns, one of no rows, rows that stand by several names.
HEADS = {"R": ("a", "b"), "S": ("b", "c"), "T": ("c", "a"), "E": ("b",), "Z": ()}
ROWS = [("R", "r1", (1, 1)), ("R", "r2", (1, "1")), ("R", "r3", (2, 1)), ("R", "r4", (1, 1)), ("S", "s1", (1, 2)),
        ("S", "s2", ("1", 2)), ("S", "s3", (1, 1)), ("T", "t1", (2, 1)), ("T", "t2", (1, "1")), ("T", "t3", (2, 1)),
        ("Z", "z1", ()), ("Z", "z2", ())]
COLUMNS = ("a", "b", "c", "d")
R, S, T, E, Z = [("table", name) for name in "RSTEZ"]
# Where in a question its parts begin, but for 2.
FIRST = {"join": 1, "put": 1, "call": 3, "ring": 3}


def table(name):
    return ("table", name)


def ring(times, start, step, name="n"):
    return ("ring", name, times, start, step)


def words_of(question):
    told = [question[0]]
    for part in question[FIRST.get(question[0], 2):]:
        told.extend(words_of(part))
    return told


def store_of(rows):
    """A store of the sample's tables, with these rows."""
    store = Store()
    for name in HEADS:
        store.make(name, HEADS[name])
    for row in rows:
        store.put(*row)
    return store


def sample_store():
    return store_of(ROWS)


def all_of(store):
    """All that a store tells of itself."""
    heads = store.heads()
    return (heads, {table: store.names(table) for table in heads}, store.all_names(),
            {name: store.row_of(name) for name in store.all_names()}, store.named())


def sample_marks(way, marks, names, first=0):
    return {name: marks[(k + first) % len(marks)] for k, name in enumerate(sorted(names))}


def sample_tables(way, marks):
    store = sample_store()
    return store.marked(way, sample_marks(way, marks, store.all_names()))


def slowly(way, question, tables):
    """The answer and its work, word by word as points 29 and 38 tell them, without any care for speed."""
    word = question[0]
    if word == "table":
        return tables[question[1]], 0
    if word == "ring":
        return ring_slowly(way, question, tables)
    below = [slowly(way, part, tables) for part in question[FIRST.get(word, 2):]]
    work = sum([many for table, many in below])
    head, rows = below[0][0]
    if word == "pick":
        return (head, {row: mark for row, mark in rows.items() if passes(question[1], head, row)}), work
    if word == "keep":
        pairs = [(told_of(head, row, question[1]), mark) for row, mark in rows.items()]
        return (question[1], put_slowly(way, pairs)), work
    if word == "call":
        return (tuple([question[2] if column == question[1] else column for column in head]), dict(rows)), work
    if word == "join":
        return joined_slowly(way, below[0][0], below[1][0]), work + len(rows) * len(below[1][0][1])
    return together_slowly(way, below[0][0], below[1][0]), work


def together_slowly(way, one, other):
    turned = [(told_of(other[0], row, one[0]), mark) for row, mark in other[1].items()]
    return (one[0], put_slowly(way, list(one[1].items()) + turned))


def ring_slowly(way, ring, tables):
    start, work = slowly(way, ring[3], tables)
    told = start
    for k in range(ring[2]):
        step, more = slowly(way, ring[4], {**tables, ring[1]: told})
        told, work = together_slowly(way, start, step), work + more
    return told, work


def some_test(rng, head, deep=2):
    word = rng.choice(("is", "same") if deep == 0 else ("is", "same", "not", "and", "or"))
    if word == "is":
        return (word, rng.choice(head), rng.choice(VALUES))
    if word == "same":
        return (word, rng.choice(head), rng.choice(head))
    return (word,) + tuple([some_test(rng, head, deep - 1) for k in range(1 if word == "not" else 2)])


def some_question(rng, heads, deep):
    """A question that has a head for these heads, and that head."""
    word = rng.choice(("pick", "keep", "call", "join", "join", "put", "ring")) if deep else "table"
    if word == "table" or rng.randrange(8) == 0:
        name = rng.choice(sorted(heads))
        return ("table", name), heads[name]
    one, head = some_question(rng, heads, deep - 1)
    if word == "pick" and head:
        return (word, some_test(rng, head), one), head
    if word == "keep":
        columns = tuple(rng.sample(head, rng.randrange(len(head) + 1)))
        return (word, columns, one), columns
    if word == "call" and head:
        old = rng.choice(head)
        new = rng.choice([old] + [column for column in COLUMNS if column not in head])
        return (word, old, new, one), tuple([new if column == old else column for column in head])
    if word == "put":
        return (word, one, fitting(rng, heads, deep - 1, head)), head
    if word == "ring":
        name = f"ring {len(heads)}"
        step = fitting(rng, {**heads, name: head}, deep - 1, head)
        return (word, name, rng.randrange(4), one, step), head
    other, more = some_question(rng, heads, deep - 1)
    return ("join", one, other), head + tuple([column for column in more if column not in head])


def fitting(rng, heads, deep, head):
    """A question with just these columns, in some order."""
    one, has = some_question(rng, heads, deep)
    for column in head:
        if column not in has:
            homes = [name for name in sorted(heads) if column in heads[name]]
            more = ("table", homes[-1]) if homes else ("call", "b", column, ("table", "E"))
            one, has = ("join", one, ("keep", (column,), more)), has + (column,)
    return ("keep", tuple(rng.sample(head, len(head))), one)


def some_questions(seed, many, most, deep=5):
    """So many questions of at most that degree, for the sample's heads."""
    rng = random.Random(seed)
    told = []
    while len(told) < many:
        question = some_question(rng, HEADS, 1 + len(told) % deep)[0]
        if degree(question) <= most:
            told.append(question)
    return told


def more_picks(rng, question, heads):
    """The same with picks at some of its places, each over a part that has columns."""
    for place in sorted(places(question), key=len, reverse=True):
        part = part_at(question, place)
        head = head_of(part, heads_at(question, place, heads))
        if head and rng.randrange(2):
            for k in range(1 + rng.randrange(3)):
                part = ("pick", some_test(rng, head, 3), part)
            question = with_part(question, place, part)
    return question


def rebuilt(question, each):
    first = FIRST.get(question[0], 2)
    return question[:first] + tuple([each(part) for part in question[first:]])


def unrolled_slowly(question):
    """Point 34, read off word by word."""
    if question[0] != "ring":
        return rebuilt(question, unrolled_slowly)
    name, times, start, step = question[1:]
    if times == 0:
        return unrolled_slowly(start)
    fewer = unrolled_slowly(("ring", name, times - 1, start, step))
    return ("put", unrolled_slowly(start), replaced_slowly(unrolled_slowly(step), name, fewer))


def replaced_slowly(question, name, other):
    if question == ("table", name):
        return other
    return rebuilt(question, lambda part: replaced_slowly(part, name, other))
