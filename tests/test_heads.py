import unittest

from tests.helper import Shapes
from whence.errors import NoColumn, NoFit, WhenceError
from whence.heads import called_head, joined_head, kept_head, together_head

HEAD = ("a", "b", "c")


class Heads(unittest.TestCase, Shapes):
    def test_kept(self):
        self.same(kept_head(HEAD, ("c", "a")), ("c", "a"))
        self.same(kept_head(HEAD, HEAD), HEAD)
        self.same(kept_head(HEAD, ()), ())
        self.same(kept_head((), ()), ())

    def test_kept_refuses_what_is_not_there_or_stands_twice(self):
        for columns in (("d",), ("a", "d"), ("d", "a"), ("a", "a"), ("a", "b", "a"), ("d", "d"), ("ab",), ("A",)):
            with self.assertRaises(NoColumn):
                kept_head(HEAD, columns)
        with self.assertRaises(NoColumn):
            kept_head((), ("a",))

    def test_called(self):
        self.same(called_head(HEAD, "a", "n"), ("n", "b", "c"))
        self.same(called_head(HEAD, "b", "n"), ("a", "n", "c"))
        self.same(called_head(HEAD, "c", ""), ("a", "b", ""))

    def test_called_by_its_own_name(self):
        self.same(called_head(HEAD, "b", "b"), HEAD)

    def test_called_refuses(self):
        for old, new in (("d", "n"), ("d", "d"), ("d", "a"), ("a", "b"), ("c", "a")):
            with self.assertRaises(NoColumn):
                called_head(HEAD, old, new)
        with self.assertRaises(NoColumn):
            called_head((), "a", "a")

    def test_joined(self):
        self.same(joined_head(HEAD, ("d", "e")), ("a", "b", "c", "d", "e"))
        self.same(joined_head(HEAD, ("e", "b", "d", "a")), ("a", "b", "c", "e", "d"))
        self.same(joined_head(HEAD, ("c", "b", "a")), HEAD)
        self.same(joined_head(HEAD, HEAD), HEAD)
        self.same(joined_head(HEAD, ()), HEAD)
        self.same(joined_head((), HEAD), HEAD)
        self.same(joined_head((), ()), ())

    def test_together(self):
        self.same(together_head(HEAD, HEAD), HEAD)
        self.same(together_head(HEAD, ("c", "a", "b")), HEAD)
        self.same(together_head((), ()), ())

    def test_together_refuses(self):
        for other in ((), ("a", "b"), ("a", "b", "c", "d"), ("a", "b", "d")):
            with self.assertRaises(NoFit):
                together_head(HEAD, other)
            with self.assertRaises(NoFit):
                together_head(other, HEAD)
        with self.assertRaises(WhenceError):
            together_head(("a",), ("A",))
