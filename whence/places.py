"""Places in questions (point 35)."""

from whence.errors import NoPlace
from whence.questions import head_of, parts_of, with_parts


def places(question):
    ahead = [((), question)]
    told = []
    while len(ahead) > 0:
        here = ahead.pop()
        told.append(here[0])
        below = [(here[0] + (k,), part) for k, part in enumerate(parts_of(here[1]))]
        # The last one laid down is the first one taken up.
        ahead.extend(list(reversed(below)))
    return told


def part_at(question, place):
    return parts_along(question, place)[-1]


# The question, its part on the way to the place, that one's part, and so on down to the part there.
def parts_along(question, place):
    along = [question]
    for k in place:
        parts = parts_of(along[-1])
        if k < 0 or k >= len(parts):
            raise NoPlace("the question has no such place")
        along.append(parts[k])
    return along


def with_part(question, place, part):
    along = parts_along(question, place)
    told = part
    for depth in range(len(place) - 1, -1, -1):
        parts = parts_of(along[depth])
        parts[place[depth]] = told
        told = with_parts(along[depth], parts)
    return told


def heads_at(question, place, heads):
    told = dict(heads)
    for part, k in zip(parts_along(question, place), place):
        # A ring's parts are its start, 0, and its step, 1.
        if part[0] == "ring" and k == 1:
            told[part[1]] = head_of(part[3], told)
    return told
