"""Rings unrolled (point 34)."""

from whence.questions import told_from_parts, with_parts


def unrolled(question):
    def tell(part, below):
        return unrolled_ring(part) if part[0] == "ring" else with_parts(part, below)
    return told_from_parts(question, tell)


def unrolled_ring(ring):
    start = unrolled(ring[3])
    # A step of no rounds is left alone: it is not in the unrolled question, however great it would be.
    if ring[2] == 0:
        return start
    step = unrolled(ring[4])
    told = start
    for left in range(ring[2]):
        told = ("put", start, replaced(step, ring[1], told))
    return told


def replaced(question, name, other):
    def tell(part, below):
        return other if part == ("table", name) else with_parts(part, below)
    return told_from_parts(question, tell)
