"""Tables of sums, valued in a way or with a name struck (point 22)."""

from whence.sums import Sums, check_names, struck, worth
from whence.tables import without_noughts


def valued(one, way, marks):
    check_all_names(one[1], marks)
    return (one[0], worths_of(one[1], way, marks))


# Ahead of all reckoning: a name without a mark is refused whatever the other names' marks are.
def check_all_names(sums, marks):
    for key in sums:
        check_names(sums[key], marks)


def worths_of(sums, way, marks):
    return without_noughts(way, [(key, worth(some, way, marks)) for key, some in sums.items()])


def struck_in(one, name):
    return (one[0], without_noughts(Sums(), [(row, struck(some, name)) for row, some in one[1].items()]))
