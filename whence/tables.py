"""Tables, and what is made of them (points 16 to 19, and mark_of of point 22)."""

from whence.errors import NoMark, NoRow
from whence.heads import called_head, check_once, joined_head, kept_head, together_head
from whence.picks import check_columns, holds
from whence.plain import plus_all


def make_table(way, head, pairs):
    check_once(head)
    for row, mark in pairs:
        if len(row) != len(head):
            raise NoRow("a row is not as long as the head")
        if not way.is_mark(mark):
            raise NoMark("a row has no mark of the way")
    return (tuple(head), put_together(way, pairs))


# Noughts go only when all of a row's marks have come: what comes to nought may go on from there.
def put_together(way, pairs):
    marks = {}
    for row, mark in pairs:
        marks.setdefault(row, []).append(mark)
    return without_noughts(way, [(row, plus_all(way, marks[row])) for row in marks])


def without_noughts(way, pairs):
    return dict([(row, mark) for row, mark in pairs if mark != way.nought])


def picked(one, test):
    head = one[0]
    rows = one[1]
    check_columns(test, head)
    return (head, dict([(row, rows[row]) for row in rows if holds(test, head, row)]))


def kept(way, one, columns):
    head = kept_head(one[0], columns)
    places = places_of(one[0], head)
    return (head, put_together(way, [(values_at(row, places), mark) for row, mark in one[1].items()]))


def places_of(head, columns):
    return [head.index(column) for column in columns]


def values_at(row, places):
    return tuple([row[place] for place in places])


def called(one, old, new):
    return (called_head(one[0], old, new), dict(one[1]))


def joined(way, one, other):
    head = joined_head(one[0], other[0])
    shared = [column for column in one[0] if column in other[0]]
    here = places_of(one[0], shared)
    added = places_of(other[0], head[len(one[0]):])
    partners = rows_by(other, places_of(other[0], shared))
    pairs = []
    for row, mark in one[1].items():
        for partner in partners.get(values_at(row, here), []):
            pairs.append((row + values_at(partner, added), way.times(mark, other[1][partner])))
    return (head, without_noughts(way, pairs))


def rows_by(one, places):
    groups = {}
    for row in one[1]:
        groups.setdefault(values_at(row, places), []).append(row)
    return groups


def together(way, one, other):
    head = together_head(one[0], other[0])
    places = places_of(other[0], head)
    pairs = list(one[1].items())
    pairs.extend([(values_at(row, places), mark) for row, mark in other[1].items()])
    return (head, put_together(way, pairs))


def mark_of(way, one, row):
    return one[1].get(row, way.nought)
