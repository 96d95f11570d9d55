"""Questions: their parts, heads, tables and degrees (points 27, 28, 30 and 31)."""

from whence.errors import NoTable, Twice
from whence.heads import called_head, joined_head, kept_head, together_head
from whence.picks import check_columns

# Where in a question its parts begin: they stand last, whatever the word.
FIRST_PART = {"table": 2, "pick": 2, "keep": 2, "call": 3, "join": 1, "put": 1, "ring": 3}


def parts_of(question):
    return list(question[FIRST_PART[question[0]]:])


def with_parts(question, parts):
    return question[:FIRST_PART[question[0]]] + tuple(parts)


# A ring stays whole: what its step stands on hangs on its start.
def parts_but_of_rings(question):
    return [] if question[0] == "ring" else parts_of(question)


# Each with how many are straight below it: what is below goes ahead, from the left. No def calls itself for what is
# below, since that may be more within one another than calls can be.
def laid_out(top, below_of):
    ahead = [top]
    order = []
    while len(ahead) > 0:
        here = ahead.pop()
        below = below_of(here)
        order.append((here, len(below)))
        ahead.extend(below)
    return list(reversed(order))


# tell(here, below) is asked in that order, `below` being what was told of those straight below.
def told_through(top, below_of, tell):
    told = []
    for here, many in laid_out(top, below_of):
        below = [told.pop() for left in range(many)]
        below.reverse()
        told.append(tell(here, below))
    return told[0]


# The parts from the left, each whole, then the question itself.
def in_order(question):
    return [part for part, many in laid_out(question, parts_but_of_rings)]


def told_from_parts(question, tell):
    return told_through(question, parts_but_of_rings, tell)


def head_of(question, heads):
    def tell(part, below):
        return head_by_word(part, below, heads)
    return told_from_parts(question, tell)


def head_by_word(part, below, heads):
    word = part[0]
    if word == "table":
        return table_head(part[1], heads)
    if word == "ring":
        return ring_head(part, heads)
    if word == "pick":
        check_columns(part[1], below[0])
        return below[0]
    if word == "keep":
        return kept_head(below[0], part[1])
    if word == "call":
        return called_head(below[0], part[1], part[2])
    if word == "join":
        return joined_head(below[0], below[1])
    return together_head(below[0], below[1])


def table_head(name, heads):
    if name not in heads:
        raise NoTable(f"there is no table {name!r}")
    return heads[name]


def ring_head(ring, heads):
    name = ring[1]
    if name in heads:
        raise Twice(f"there is a table or a ring {name!r} already")
    start = head_of(ring[3], heads)
    return together_head(start, head_of(ring[4], with_key(heads, name, start)))


def with_key(one, key, value):
    other = dict(one)
    other[key] = value
    return other


def tables_of(question):
    return sorted(set(tables_told(question)))


# Each as often as it stands. A ring's name is none of them within its step.
def tables_told(question):
    told = []
    for part in in_order(question):
        if part[0] == "table":
            told.append(part[1])
        if part[0] == "ring":
            told.extend(tables_told(part[3]))
            told.extend([name for name in tables_told(part[4]) if name != part[1]])
    return told


def degree(question):
    return degree_within(question, {})


# `rounds` tells the degree of the round before, for each ring in whose step the question stands.
def degree_within(question, rounds):
    def tell(part, below):
        if part[0] == "table":
            return rounds.get(part[1], 1)
        if part[0] == "ring":
            return ring_degree(part, rounds)
        return sum(below) if part[0] == "join" else max(below)
    return told_from_parts(question, tell)


# As of the unrolled question, which is not built, since it may be great.
def ring_degree(ring, rounds):
    start = degree_within(ring[3], rounds)
    told = start
    for left in range(ring[2]):
        after = max(start, degree_within(ring[4], with_key(rounds, ring[1], told)))
        # From the same round comes the same next one.
        if after == told:
            return told
        told = after
    return told
