"""Ways of reckoning with marks (points 6 to 11)."""

from whence.errors import NoWay
from whence.plain import always_rises, is_texts, is_whole, never_falls


class Truths:
    def __init__(self):
        self.nought = False
        self.one = True

    def plus(self, a, b):
        return a or b

    def times(self, a, b):
        return a and b

    def is_mark(self, thing):
        return isinstance(thing, bool)


class Counts:
    def __init__(self):
        self.nought = 0
        self.one = 1

    def plus(self, a, b):
        return a + b

    def times(self, a, b):
        return a * b

    def is_mark(self, thing):
        return is_whole(thing, 0)


class Rounds:
    def __init__(self, many):
        if not is_whole(many, 2):
            raise NoWay("rounds go by a whole number from 2 on")
        self.many = many
        self.nought = 0
        self.one = 1

    def plus(self, a, b):
        return (a + b) % self.many

    def times(self, a, b):
        return (a * b) % self.many

    def is_mark(self, thing):
        return is_whole(thing, 0) and thing < self.many


class Costs:
    def __init__(self):
        self.nought = None
        self.one = 0

    def plus(self, a, b):
        if a is None:
            return b
        if b is None:
            return a
        return min(a, b)

    def times(self, a, b):
        if a is None or b is None:
            return None
        return a + b

    def is_mark(self, thing):
        return thing is None or is_whole(thing, 0)


class Seers:
    def __init__(self, people):
        self.nought = ()
        self.one = tuple(sorted(set(people)))

    def plus(self, a, b):
        return tuple(sorted(set(a) | set(b)))

    def times(self, a, b):
        return tuple(sorted(set(a) & set(b)))

    def is_mark(self, thing):
        return is_texts(thing) and always_rises(thing) and len(set(thing) - set(self.one)) == 0


class Lows:
    def __init__(self, many):
        if not is_whole(many, 1):
            raise NoWay("lows keep a whole number from 1 on")
        self.many = many
        self.nought = ()
        self.one = (0,)

    def plus(self, a, b):
        return tuple(sorted(a + b)[:self.many])

    def times(self, a, b):
        sums = []
        for low in a:
            sums.extend([low + other for other in b])
        return tuple(sorted(sums)[:self.many])

    def is_mark(self, thing):
        if not isinstance(thing, tuple) or len(thing) > self.many:
            return False
        return all([is_whole(low, 0) for low in thing]) and never_falls(thing)


class Pairs:
    def __init__(self, left, right):
        self.left = left
        self.right = right
        self.nought = (left.nought, right.nought)
        self.one = (left.one, right.one)

    def plus(self, a, b):
        return (self.left.plus(a[0], b[0]), self.right.plus(a[1], b[1]))

    def times(self, a, b):
        return (self.left.times(a[0], b[0]), self.right.times(a[1], b[1]))

    def is_mark(self, thing):
        if not isinstance(thing, tuple) or len(thing) != 2:
            return False
        return self.left.is_mark(thing[0]) and self.right.is_mark(thing[1])
