"""Groups of a table's values by keys, and totals (points 32 and 33)."""

from whence.errors import NoColumn, NoNumber
from whence.heads import kept_head
from whence.tables import places_of, put_together, values_at
from whence.values import check_all_names, worths_of


def grouped(way, one, keys, column):
    head = one[0]
    places = places_of(head, kept_head(head, keys))
    if column not in head:
        raise NoColumn(f"the head has no column {column!r}")
    place = head.index(column)
    pairs = [((values_at(row, places), row[place]), mark) for row, mark in one[1].items()]
    groups = {}
    for both, mark in put_together(way, pairs).items():
        if both[0] not in groups:
            groups[both[0]] = {}
        groups[both[0]][both[1]] = mark
    return groups


def valued_groups(groups, way, marks):
    for key in groups:
        check_all_names(groups[key], marks)
    told = {}
    for key in groups:
        worths = worths_of(groups[key], way, marks)
        if len(worths) > 0:
            told[key] = worths
    return told


def total(values):
    for value in values:
        if isinstance(value, str):
            raise NoNumber(f"the value {value!r} is a text")
    return sum([value * values[value] for value in values])
