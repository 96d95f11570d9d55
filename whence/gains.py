"""What answers gain when more comes to the tables (points 40 and 41)."""

from whence.answers import answer_by_word
from whence.errors import NoTable
from whence.heads import together_head
from whence.questions import head_of, parts_but_of_rings, told_through, with_key
from whence.tables import joined, together


def with_more(way, tables, more):
    check_more(tables, more)
    return dict([(name, together(way, tables[name], more_of(name, tables, more))) for name in tables])


def check_more(tables, more):
    for name in sorted(more):
        if name not in tables:
            raise NoTable(f"there is no table {name!r} to which more could come")
        together_head(tables[name][0], more[name][0])


def more_of(name, tables, more):
    return more[name] if name in more else without_rows(tables[name])


def without_rows(one):
    return (one[0], {})


def gain(way, question, tables, more):
    check_more(tables, more)
    head_of(question, dict([(name, tables[name][0]) for name in tables]))
    # Together with no rows, it has its columns in the order of the table's head.
    gains = dict([(name, together(way, without_rows(tables[name]), more_of(name, tables, more))) for name in tables])
    return gained(way, question, tables, gains, False)[1]


# A tuple of the answer before and its gain. A join's gain hangs on its parts' answers before; where no join is above,
# nothing does, and unless it is asked for, None stands for it there, since it may be far greater than the gain.
def gained(way, question, tables, gains, asked):
    def below_of(here):
        return [(part, here[1] or here[0][0] == "join") for part in parts_but_of_rings(here[0])]

    def tell(here, below):
        part = here[0]
        if part[0] == "table":
            return (tables[part[1]], gains[part[1]])
        if part[0] == "ring":
            return ring_gained(way, part, tables, gains)
        before = answer_by_word(way, part, [one for one, more in below]) if here[1] else None
        return (before, gain_by_word(way, part, below))
    return told_through((question, asked), below_of, tell)


def gain_by_word(way, part, below):
    if part[0] == "join":
        return join_gain(way, below[0], below[1])
    return answer_by_word(way, part, [more for before, more in below])


def join_gain(way, one, other):
    with_one = together(way, joined(way, one[1], other[0]), joined(way, one[0], other[1]))
    return together(way, with_one, joined(way, one[1], other[1]))


def ring_gained(way, ring, tables, gains):
    start = gained(way, ring[3], tables, gains, True)
    told = start
    for left in range(ring[2]):
        step = gained(way, ring[4], with_key(tables, ring[1], told[0]), with_key(gains, ring[1], told[1]), True)
        after = (together(way, start[0], step[0]), together(way, start[1], step[1]))
        # From the same round and gain come the same next ones.
        if after == told:
            return told
        told = after
    return told
