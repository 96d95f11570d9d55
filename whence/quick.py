"""Questions turned so that picks are done first (point 39)."""

from whence.picks import columns_of, test_called
from whence.questions import head_of, parts_but_of_rings, told_through, with_key, with_parts


def quick(question, heads):
    def below_of(here):
        return [laid(part, tests, heads) for part, tests in here[2]]

    def tell(here, below):
        return under_picks(here[1], turned_part(here[0], below, heads))
    return told_through(laid(question, [], heads), below_of, tell)


# A tuple of the part, of those of the tests handed down to it that go no deeper, and of what goes on: a list of its
# parts, each with the tests that are handed down to it. A pick goes on as its test alone.
def laid(part, tests, heads):
    word = part[0]
    if word == "pick":
        return (part, [], [(part[2], tests + without_and(part[1]))])
    if word == "call":
        return (part, [], [(part[3], [test_called(test, part[2], part[1]) for test in tests])])
    if word == "join":
        return laid_join(part, tests, heads)
    if word in ("keep", "put"):
        return (part, [], [(below, tests) for below in parts_but_of_rings(part)])
    return (part, tests, [])


def without_and(test):
    if test[0] != "and":
        return [test]
    return without_and(test[1]) + without_and(test[2])


# A test that fits both sides goes down on both: the fewer rows each side has, the fewer pairs are looked at.
def laid_join(join, tests, heads):
    if len(tests) == 0:
        return (join, [], [(join[1], []), (join[2], [])])
    left = fitting(tests, head_of(join[1], heads))
    right = fitting(tests, head_of(join[2], heads))
    return (join, [test for test in tests if test not in left + right], [(join[1], left), (join[2], right)])


def fitting(tests, head):
    return [test for test in tests if all([column in head for column in columns_of(test)])]


def under_picks(tests, part):
    told = part
    for test in reversed(tests):
        told = ("pick", test, told)
    return told


def turned_part(part, below, heads):
    if part[0] == "pick":
        return below[0]
    if part[0] == "ring":
        return turned_ring(part, heads)
    return with_parts(part, below)


# No test goes down into a ring: a round that has lost rows may lack what the next one comes from.
def turned_ring(ring, heads):
    start = quick(ring[3], heads)
    step = quick(ring[4], with_key(heads, ring[1], head_of(ring[3], heads)))
    return with_parts(ring, [start, step])
