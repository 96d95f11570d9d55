"""Answers to questions, and the work of their joins (points 29 and 38)."""

from whence.questions import head_of, told_from_parts, with_key
from whence.tables import called, joined, kept, picked, together


def answer(way, question, tables):
    told = checked_and_reckoned(way, question, tables)[0]
    # The answer may be a table that was handed in, and must be the asker's own.
    return (told[0], dict(told[1]))


def work(way, question, tables):
    return checked_and_reckoned(way, question, tables)[1]


def checked_and_reckoned(way, question, tables):
    head_of(question, dict([(name, tables[name][0]) for name in tables]))
    return reckoned(way, question, tables)


# A tuple of the answer and its work: the one is not to be had without reckoning what the other needs.
def reckoned(way, question, tables):
    def tell(part, below):
        if part[0] == "table":
            return (tables[part[1]], 0)
        if part[0] == "ring":
            return ring_reckoned(way, part, tables)
        sides = [one for one, many in below]
        return (answer_by_word(way, part, sides), sum([many for one, many in below]) + work_by_word(part, sides))
    return told_from_parts(question, tell)


# Of a word that has parts, but no ring: what becomes of the parts' answers.
def answer_by_word(way, part, below):
    word = part[0]
    if word == "pick":
        return picked(below[0], part[1])
    if word == "keep":
        return kept(way, below[0], part[1])
    if word == "call":
        return called(below[0], part[1], part[2])
    if word == "join":
        return joined(way, below[0], below[1])
    return together(way, below[0], below[1])


def work_by_word(part, below):
    return len(below[0][1]) * len(below[1][1]) if part[0] == "join" else 0


def ring_reckoned(way, ring, tables):
    start = reckoned(way, ring[3], tables)
    told = start[0]
    many = start[1]
    for left in range(ring[2], 0, -1):
        step = reckoned(way, ring[4], with_key(tables, ring[1], told))
        after = together(way, start[0], step[0])
        # From the same round comes the same next one, by the same work. Were it not looked at, rings within rings
        # whose rounds do not hang on one another would take as many steps as all their rounds multiplied.
        if after == told:
            return (told, many + left * step[1])
        told = after
        many = many + step[1]
    return (told, many)
