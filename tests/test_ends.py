"""Promise 19, ends and catches: what is one, and what of anything else is refused."""

import unittest

from letterbench import ends
from letterbench.ends import look_at_catch, look_at_end
from letterbench.errors import NoCatch, NoEnd
from letterbench.talks import lets_table, places_at, sureness, talk_of, wanted, way_of

NO_WORDS = (None, True, 5, "", "Abc", "a b", "abcdefghi", "a1", ("a",), ["a"], {}, b"a", "a\n")
ROW = ("a", "says", "x", "b")
GOOD = (("a", "b"), (ROW, ("b", "hears", "y", "a")))
WORDS = [chr(97 + number // 26) + chr(97 + number % 26) for number in range(100)]


class Ends(unittest.TestCase):
    def so(self, thing):
        self.assertIsNone(look_at_end(thing))

    def refused(self, number, thing):
        with self.assertRaises(NoEnd) as caught:
            look_at_end(thing)
        self.assertEqual(caught.exception.number, number, thing)
        self.assertIs(type(caught.exception.number), type(number))

    def test_ends(self):
        self.so(GOOD)
        self.so((("a",), ()))
        self.so((("a",), (("a", "says", "x", "a"), ("a", "hears", "x", "a"), ("a", "says", "y", "a"))))
        self.assertIsNone(look_at_end(thing=GOOD))

    def test_places(self):
        for many in range(1, 9):
            self.so((tuple(WORDS[:many]), ()))
        self.refused(None, ((), ()))
        self.refused(None, (tuple(WORDS[:9]), ()))
        self.refused(None, (("a", "a"), ()))
        self.refused(None, (("a", "b", "a"), ()))
        self.refused(None, (["a"], ()))
        self.refused(None, ("a", ()))
        for bad in NO_WORDS:
            self.refused(None, ((bad,), ()))
            self.refused(None, (("a", bad), ()))
            self.refused(None, (("a", bad), (None,)))

    def test_as_many_rows(self):
        rows = tuple(("a", "says", word, "a") for word in WORDS[:13])
        for many in range(13):
            self.so((("a",), rows[:many]))
        self.refused(None, (("a",), rows))
        self.refused(None, (("a",), (None,) * 13))
        for bad in (None, True, 5, "", [], {}, [ROW], object()):
            self.refused(None, (("a", "b"), bad))

    def test_no_such_tuple(self):
        for thing in (None, True, 5, "end", [], {}, (), (("a",),), (("a",), (), ()), list(GOOD), object(), ((("a",), ()),)):
            self.refused(None, thing)

    def test_the_first_row_that_is_none(self):
        for bad in (None, (), ("a",), ROW[:3], ROW + ("a",), list(ROW), ("c", "says", "x", "b"), ("a", "says", "x", "c"), ("a", "says", "x", None),
                    (None, "says", "x", "b"), ("a", "say", "x", "b"), ("a", None, "x", "b"), ("a", True, "x", "b"), ("a", ["says"], "x", "b"),
                    (["a"], "says", "x", "b"), ({}, "says", "x", "b"), ("a", "Says", "x", "b")):
            self.refused(0, (("a", "b"), (bad,)))
            self.refused(1, (("a", "b"), (ROW, bad)))
            self.refused(1, (("a", "b"), (ROW, bad, bad, None)))
        for bad in NO_WORDS:
            self.refused(1, (("a", "b"), (ROW, ("a", "says", bad, "b"))))

    def test_rows_that_are_not_unlike(self):
        other = ("a", "hears", "x", "b")
        self.so((("a", "b"), (ROW, other)))
        self.refused(1, (("a", "b"), (ROW, ROW)))
        self.refused(2, (("a", "b"), (ROW, other, ROW, None)))
        self.refused(2, (("a", "b"), (ROW, other, other)))
        self.refused(1, (("a", "b"), (ROW, None, ROW)))


class Catches(unittest.TestCase):
    def refused(self, number, thing):
        with self.assertRaises(NoCatch) as caught:
            look_at_catch(thing)
        self.assertEqual(caught.exception.number, number, thing)
        self.assertIs(type(caught.exception.number), type(number))

    def test_catches(self):
        self.assertIsNone(look_at_catch([]))
        self.assertIsNone(look_at_catch(thing=[(0, "x"), (1, "x"), (0, "abcdefgh")]))
        self.assertIsNone(look_at_catch([(1, "x")] * 60))

    def test_no_such_list(self):
        self.refused(None, [(1, "x")] * 61)
        self.refused(None, [None] * 61)
        for thing in (None, True, 5, "x", (), ((0, "x"),), {}, object()):
            self.refused(None, thing)

    def test_the_first_that_is_none(self):
        good = (0, "x")
        for bad in (None, (), (0,), (0, "x", 1), [0, "x"], "x", 0, {}, (2, "x"), (-1, "x"), (True, "x"), (False, "x"), (None, "x"), ("0", "x"),
                    (10 ** 30, "x"), ("x", 0)) + tuple((1, word) for word in NO_WORDS):
            self.refused(0, [bad])
            self.refused(2, [good, good, bad, good, bad])
            self.refused(59, [good] * 59 + [bad])


class Order(unittest.TestCase):
    """Of each of these the first end that is none is refused, then what is no catch."""

    CALLS = (talk_of, lambda pair, catch: lets_table(pair, catch, {}), way_of, places_at, sureness, wanted)

    def number(self, call, error, *handed):
        with self.assertRaises(error) as caught:
            call(*handed)
        return caught.exception.number

    def test_order(self):
        bad = (GOOD[0], (ROW, None))
        worse = (("a", "a"), ())
        for call in self.CALLS:
            self.assertEqual(self.number(call, NoEnd, (bad, worse), [None]), 1)
            self.assertIsNone(self.number(call, NoEnd, (worse, bad), [None]))
            self.assertEqual(self.number(call, NoEnd, (GOOD, bad), [None]), 1)
            self.assertEqual(self.number(call, NoCatch, (GOOD, GOOD), [(0, "x"), None]), 1)
            self.assertIsNone(self.number(call, NoCatch, (GOOD, GOOD), ((0, "x"),)))

    def test_no_two_ends(self):
        for call in self.CALLS:
            for pair in (None, (), (GOOD,), (GOOD, GOOD, GOOD), [GOOD, GOOD], GOOD[0]):
                self.assertIsNone(self.number(call, NoEnd, pair, [None]))

    def test_stands_in_its_file(self):
        for name in ("look_at_end", "look_at_catch"):
            self.assertEqual(getattr(ends, name).__module__, "letterbench.ends")


if __name__ == "__main__":
    unittest.main()
