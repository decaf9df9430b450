"""Promises 5 and 6: grammars looked at, and what is told of them."""

import time
import unittest

from letterbench import grammars
from letterbench.errors import NoGrammar, NoKind
from letterbench.grammars import fields_of, kinds_of, least_of, look_at_grammar

NUMBER = ("number", "n", 1, "big", 0, 255)
BITS = ("bits", (("hi", 3), ("lo", 5)))
ONE = ("one", (("number", "a", 1, "big", 0, 255),))

EACH = (
    ("letter", (
        ("number", "tag", 2, "small", 1, 300),
        BITS,
        ("bytes", "body", ("of", "lo", 2, -3)),
        ("text", "word", 0),
        ("choice", "what", "hi", ((0, "one"),)),
        ("row", "many", "one", ("of", "tag")),
        ("carried", "inner", ("is", 7), "two"),
        ("sum", "check", "mixed"),
    )),
    ONE,
    ("two", (("bytes", "rest", ("rest",)), ("sum", "check", "plain"))),
)


def of_fields(*fields):
    """A grammar of one kind with these fields, and of one more for those that name it."""
    return (("top", tuple(fields)), ONE)


def refused(thing):
    """The kind and field that are told, or None where the thing is let by."""
    try:
        told = look_at_grammar(thing)
    except NoGrammar as refusal:
        return (refusal.kind, refusal.field)
    if told is not None:
        raise AssertionError(told)
    return None


class Cases(unittest.TestCase):
    def good(self, *fields):
        self.assertIsNone(refused(of_fields(*fields)), fields)

    def bad(self, *fields):
        """The last one of these fields is refused."""
        self.assertEqual(refused(of_fields(*fields)), (0, len(fields) - 1), fields)


class WholeGrammars(Cases):
    def test_each_kind_of_field(self):
        self.assertIsNone(refused(EACH))

    def test_things_of_other_kinds(self):
        for thing in (None, True, 0, 7, "top", b"ab", [], [ONE], {}, {1}, 1.5, object(), len, (), "a" * 9000):
            self.assertEqual(refused(thing), (None, None), thing)

    def test_one_to_ten_kinds(self):
        kinds = tuple((letter, (NUMBER,)) for letter in "abcdefghijk")
        for many in range(1, 11):
            self.assertIsNone(refused(kinds[:many]))
        self.assertEqual(refused(()), (None, None))
        self.assertEqual(refused(kinds), (None, None))

    def test_kinds_that_are_no_tuple_of_two(self):
        for kind in (None, (), ("a",), ("a", (NUMBER,), 0), ["a", (NUMBER,)], "ab", 5, True):
            self.assertEqual(refused((ONE, kind)), (1, None), kind)

    def test_names_of_kinds(self):
        for name in ("", "A", "a b", "a1", "abcdefghi", None, 5, True, ("a",), [], {}, "one"):
            self.assertEqual(refused((ONE, (name, (NUMBER,)))), (1, None), name)
        self.assertIsNone(refused((ONE, ("abcdefgh", (NUMBER,)))))

    def test_one_to_eight_fields(self):
        fields = tuple(("number", letter, 1, "big", 0, 255) for letter in "abcdefghi")
        for many in range(1, 9):
            self.assertIsNone(refused((("top", fields[:many]),)))
        for wrong in ((), fields, list(fields[:2]), None, "ab", 7, {}, True):
            self.assertEqual(refused((ONE, ("top", wrong))), (1, None), wrong)

    def test_fields_that_are_no_fields(self):
        for field in (None, (), [], "number", 5, True, ("number",), ("nothing", "n"), (None,), ([],), ({}, "n"),
                      (("number",),), ["number", "n", 1, "big", 0, 255], ("", "n", 1), (5, "n", 5), (True, "n")):
            self.assertEqual(refused((ONE, ("top", (NUMBER, field)))), (1, 1), field)

    def test_arguments_by_name(self):
        self.assertIsNone(look_at_grammar(thing=EACH))
        with self.assertRaises(NoGrammar):
            look_at_grammar(thing=None)


class Fields(Cases):
    def test_number_sizes(self):
        for size in (1, 2, 3, 4):
            self.good(("number", "n", size, "big", 0, 256 ** size - 1))
            self.good(("number", "n", size, "small", 256 ** size - 1, 256 ** size - 1))
            self.good(("number", "n", size, "small", 0, 0))
            self.bad(("number", "n", size, "big", 0, 256 ** size))
            self.bad(("number", "n", size, "big", 256 ** size, 256 ** size))
            self.bad(("number", "n", size, "big", -1, 5))
            self.bad(("number", "n", size, "big", 6, 5))
        for size in (0, 5, -1, True, None, "1", (1,), []):
            self.bad(("number", "n", size, "big", 0, 0))

    def test_number_orders(self):
        for order in ("", "BIG", "large", None, 0, True, [], ("big",)):
            self.bad(("number", "n", 1, order, 0, 1))

    def test_number_bounds_of_other_kinds(self):
        for bound in (True, None, "0", (), []):
            self.bad(("number", "n", 1, "big", bound, 5))
            self.bad(("number", "n", 1, "big", 0, bound))

    def test_number_things(self):
        self.bad(("number", "n", 1, "big", 0))
        self.bad(("number", "n", 1, "big", 0, 1, 2))

    def test_names(self):
        for name in ("", "N", "abcdefghi", "a-b", None, 1, True, [], ("n",)):
            self.bad(("number", name, 1, "big", 0, 1))
            self.bad(("bits", ((name, 4), ("b", 4))))
            self.bad(("bits", (("b", 4), (name, 4))))
            self.bad(("bytes", name, ("is", 1)))
            self.bad(("text", name, 0))
            self.bad(NUMBER, ("choice", name, "n", ((0, "one"),)))
            self.bad(NUMBER, ("row", name, "one", ("of", "n")))
            self.bad(("sum", name, "plain"))
            self.bad(("carried", name, ("is", 1), "one"))

    def test_names_are_unlike_within_the_kind(self):
        self.bad(NUMBER, NUMBER)
        self.bad(NUMBER, ("bits", (("m", 4), ("n", 4))))
        self.bad(BITS, ("number", "lo", 1, "big", 0, 1))
        self.bad(("bits", (("a", 4), ("a", 4))))
        self.bad(NUMBER, ("bytes", "n", ("is", 1)))
        self.bad(NUMBER, ("text", "n", 0))
        self.bad(NUMBER, ("choice", "n", "n", ((0, "one"),)))
        self.bad(NUMBER, ("row", "n", "one", ("of", "n")))
        self.bad(("bytes", "s", ("is", 1)), ("sum", "s", "plain"))
        self.bad(("text", "s", 1), ("carried", "s", ("is", 1), "one"))
        self.assertIsNone(refused((("a", (NUMBER,)), ("b", (NUMBER,)), ("n", (NUMBER,)))))

    def test_bits(self):
        self.good(("bits", tuple((letter, 1) for letter in "abcdefgh")))
        self.good(("bits", (("a", 7), ("b", 1))))
        self.good(("bits", (("a", 1), ("b", 7))))
        for parts in ((), (("a", 8),), (("a", 4), ("b", 3)), (("a", 4), ("b", 5)), (("a", 8), ("b", 0)),
                      (("a", 9), ("b", -1)), (("a", 7), ("b", True)), (("a", 4), ("b", 4, 0)), (("a", 4), ("b",)),
                      (("a", 4), ["b", 4]), [("a", 4), ("b", 4)], None, 8, "ab", (("a", "4"), ("b", 4)),
                      tuple((letter, 1) for letter in "abcdefghi"), (None, ("b", 4)), (("a", None), ("b", 4))):
            self.bad(("bits", parts))
        self.bad(("bits",))
        self.bad(("bits", (("a", 4), ("b", 4)), 0))
        self.bad(("bits", "a", (("a", 4), ("b", 4))))

    def test_lengths(self):
        for field in (("bytes", "b"), ("carried", "b")):
            tail = ("one",) if field[0] == "carried" else ()
            for length in (("is", 0), ("is", 400), ("of", "n", 1, 0), ("of", "n", 8, 40), ("of", "n", 1, -40),
                           ("of", "hi", 2, 3), ("of", "lo", 2, 3), ("rest",)):
                self.good(NUMBER, BITS, field + (length,) + tail)
            for length in (("is", -1), ("is", 401), ("is", True), ("is",), ("is", 1, 1), ("of", "n", 0, 0),
                           ("of", "n", 9, 0), ("of", "n", 1, 41), ("of", "n", 1, -41), ("of", "n", True, 0),
                           ("of", "n", 1, False), ("of", "n", 1), ("of", "n"), ("of", "n", 1, 0, 0), ("of", "m", 1, 0),
                           ("of", None, 1, 0), ("of", [], 1, 0), ("of", "N", 1, 0), ("rest", 0), (), None, "rest",
                           ["rest"], ["is", 1], 5, ("was", 1), ("was", "n", 1, 0), ("is", None), ("is", "1"), (["is"], 1), ("of", "b", 1, 0)):
                self.bad(NUMBER, BITS, field + (length,) + tail)
            self.bad(NUMBER, BITS, field)
            self.bad(NUMBER, BITS, field + (("is", 1),) + tail + (0,))

    def test_tags_are_numbers_and_parts_ahead(self):
        others = (("bytes", "b", ("is", 1)), ("text", "t", 0), ("choice", "c", "n", ((0, "one"),)),
                  ("row", "r", "one", ("of", "n")), ("sum", "s", "plain"), ("carried", "k", ("is", 1), "one"))
        for tag in ("b", "t", "c", "r", "s", "k", "x", "one", "top", None, 1, True, [], ("n",)):
            self.bad(NUMBER, *others, ("bytes", "x", ("of", tag, 1, 0)))
            self.bad(NUMBER, *others, ("choice", "x", tag, ((0, "one"),)))
            self.bad(NUMBER, *others, ("row", "x", "one", ("of", tag)))
            self.bad(NUMBER, *others, ("carried", "x", ("of", tag, 1, 0), "one"))

    def test_a_tag_behind_or_in_another_kind_is_none(self):
        self.assertEqual(refused(of_fields(("bytes", "b", ("of", "n", 1, 0)), NUMBER)), (0, 0))
        self.bad(("bytes", "b", ("of", "a", 1, 0)))

    def test_texts(self):
        self.good(("text", "t", 0))
        self.good(("text", "t", 255))
        for mark in (-1, 256, True, None, "a", b"a", (0,), []):
            self.bad(("text", "t", mark))
        self.bad(("text", "t"))
        self.bad(("text", "t", 0, 0))

    def test_choices(self):
        ways = tuple((worth, "one") for worth in range(7))
        self.good(NUMBER, ("choice", "c", "n", ways[:1]))
        self.good(NUMBER, ("choice", "c", "n", ways[:6]))
        self.good(BITS, ("choice", "c", "lo", ways[:6]))
        self.good(NUMBER, ("choice", "c", "n", ((-5, "one"), (10 ** 59, "one"))))
        for wrong in (ways, (), list(ways[:2]), None, "a", ((0, "one"), (0, "one")), ((True, "one"),), ((0, "One"),),
                      ((0,),), ((0, "one", 0),), (["0", "one"],), ((None, "one"),), (("0", "one"),), ((0, None),),
                      ((0, []),), ((0, "one"), None), (([], "one"),), ((0, ("one",)),)):
            self.bad(NUMBER, ("choice", "c", "n", wrong))
        self.bad(NUMBER, ("choice", "c", "n"))
        self.bad(NUMBER, ("choice", "c", "n", ways[:1], 0))

    def test_rows(self):
        self.good(NUMBER, ("row", "r", "one", ("of", "n")))
        self.good(BITS, ("row", "r", "one", ("of", "hi")))
        self.good(("row", "r", "one", ("rest",)))
        for many in (("is", 3), ("of",), ("of", "n", 1), ("of", "n", 1, 0), ("rest", 0), "rest", None, (), ["rest"], 3, ("by", "n")):
            self.bad(NUMBER, ("row", "r", "one", many))
        for kind in (None, 1, "One", [], ("one",), ""):
            self.bad(NUMBER, ("row", "r", kind, ("of", "n")))
        self.bad(NUMBER, ("row", "r", "one"))
        self.bad(NUMBER, ("row", "r", "one", ("of", "n"), 0))

    def test_sums(self):
        for rule in ("plain", "placed", "mixed"):
            self.good(("sum", "s", rule))
            self.good(("sum", "s", rule), NUMBER, ("sum", "t", rule))
        for rule in ("", "Plain", "first", None, 0, True, [], ("plain",)):
            self.bad(("sum", "s", rule))
        self.bad(("sum", "s"))
        self.bad(("sum", "s", "plain", 0))

    def test_carried(self):
        self.good(("carried", "k", ("is", 400), "one"))
        for kind in (None, 1, "One", [], ("one",), ""):
            self.bad(("carried", "k", ("is", 4), kind))
        self.bad(("carried", "k", ("is", 4)))
        self.bad(("carried", "k", ("is", 4), "one", 0))


class KindsNamed(Cases):
    def test_kinds_that_are_not_there(self):
        self.bad(NUMBER, ("choice", "c", "n", ((0, "one"), (1, "two"))))
        self.bad(NUMBER, ("row", "r", "two", ("of", "n")))
        self.bad(NUMBER, ("carried", "k", ("is", 1), "two"))
        self.bad(NUMBER, ("carried", "k", ("is", 1), "n"))

    def test_itself(self):
        self.bad(NUMBER, ("choice", "c", "n", ((0, "one"), (1, "top"))))
        self.bad(NUMBER, ("row", "r", "top", ("of", "n")))
        self.bad(NUMBER, ("carried", "k", ("is", 1), "top"))

    def test_itself_by_ways_of_others(self):
        def kind(name, *inner):
            fields = [NUMBER]
            for number, other in enumerate(inner):
                fields.append(("carried", "k" * (number + 1), ("is", 1), other))
            return (name, tuple(fields))

        self.assertEqual(refused((kind("a", "b"), kind("b", "a"))), (0, 1))
        self.assertEqual(refused((kind("a", "c", "b"), kind("b", "a"), kind("c"))), (0, 2))
        self.assertEqual(refused((kind("a", "b"), kind("b", "d", "c"), kind("c", "b"), kind("d"))), (1, 2))
        self.assertEqual(refused((kind("a", "b"), kind("b", "c"), kind("c", "d"), kind("d", "d"))), (3, 1))
        self.assertEqual(refused((kind("a"), kind("b", "c"), kind("c", "d"), kind("d", "b"))), (1, 1))
        self.assertIsNone(refused((kind("a", "b", "c"), kind("b", "c", "d"), kind("c", "d", "d"), kind("d"))))
        self.assertIsNone(refused((kind("a"), kind("b", "a"), kind("c", "b", "a"))))


class Rests(Cases):
    rests = (("bytes", "b", ("rest",)), ("row", "r", "one", ("rest",)), ("carried", "k", ("rest",), "one"))

    def test_last_or_ahead_of_a_sum(self):
        for field in self.rests:
            self.good(field)
            self.good(NUMBER, field)
            self.good(NUMBER, field, ("sum", "s", "plain"))
            for wrong in ((field, NUMBER), (field, ("sum", "s", "plain"), NUMBER),
                          (field, NUMBER, ("sum", "s", "plain")),
                          (field, ("sum", "s", "plain"), ("sum", "t", "plain")),
                          (field, ("bytes", "x", ("rest",)))):
                self.assertEqual(refused(of_fields(*wrong)), (0, 0), wrong)

    def test_choices_of_what_goes_to_the_rest(self):
        for field in self.rests:
            two = ("two", (field,))
            choice = ("choice", "c", "n", ((0, "one"), (1, "two")))
            self.assertIsNone(refused((("top", (NUMBER, choice)), ONE, two)))
            self.assertIsNone(refused((("top", (NUMBER, choice, ("sum", "s", "plain"))), ONE, two)))
            self.assertEqual(refused((("top", (NUMBER, choice, ("text", "t", 0))), ONE, two)), (0, 1))
            self.assertEqual(refused((("top", (NUMBER, choice, ("text", "t", 0))), ONE, ("two", (NUMBER,)))), None)

    def test_choices_within_choices(self):
        choice = ("choice", "c", "n", ((0, "two"),))
        two = ("two", (NUMBER, ("choice", "c", "n", ((0, "three"),))))
        three = ("three", (("bytes", "b", ("rest",)), ("sum", "s", "plain")))
        self.assertIsNone(refused((("top", (NUMBER, choice)), two, three)))
        self.assertEqual(refused((("top", (NUMBER, choice, BITS)), two, three)), (0, 1))

    def test_a_room_does_not_go_to_the_rest(self):
        two = ("two", (("bytes", "b", ("rest",)),))
        self.assertIsNone(refused((("top", (NUMBER, ("carried", "k", ("of", "n", 1, 0), "two"), BITS)), two)))

    def test_rows_of_what_goes_to_the_rest(self):
        row = ("row", "r", "two", ("of", "n"))
        for fields in ((NUMBER, ("bytes", "b", ("rest",))), (NUMBER, ("bytes", "b", ("rest",)), ("sum", "s", "plain")),
                       (NUMBER, ("choice", "c", "n", ((0, "three"),)))):
            grammar = (("top", (NUMBER, row)), ("two", fields), ("three", (("bytes", "b", ("rest",)),)))
            self.assertEqual(refused(grammar), (0, 1), fields)

    def test_rows_of_what_may_have_no_byte(self):
        row = ("row", "r", "two", ("of", "n"))
        none = ("bytes", "b", ("is", 0))
        for fields in ((none,), (("carried", "k", ("is", 0), "three"),), (none, ("bytes", "d", ("is", 0)))):
            grammar = (("top", (NUMBER, row)), ("two", fields), ("three", (NUMBER,)))
            self.assertEqual(refused(grammar), (0, 1), fields)
        for fields in ((none, NUMBER), (("text", "t", 0),), (BITS,), (("sum", "s", "plain"),), (("bytes", "b", ("is", 1)),)):
            self.assertIsNone(refused((("top", (NUMBER, row)), ("two", fields))), fields)


class WhichIsFirst(Cases):
    broken = ("number", "x", 1, "big", 9, 0)
    lost = ("carried", "y", ("is", 1), "nowhere")
    rest = ("bytes", "z", ("rest",))

    def test_of_two_kinds_the_first(self):
        self.assertEqual(refused((("top", (NUMBER, self.broken)), None)), (0, 1))
        self.assertEqual(refused((None, ("top", (NUMBER, self.broken)))), (0, None))
        self.assertEqual(refused((("top", (NUMBER, self.broken)), ("top", (NUMBER,)))), (0, 1))
        self.assertEqual(refused((ONE, ("two", (self.broken,)), ("one", (NUMBER,)))), (1, 0))

    def test_of_two_fields_the_first(self):
        self.assertEqual(refused(of_fields(self.broken, None)), (0, 0))
        self.assertEqual(refused(of_fields(NUMBER, None, self.broken)), (0, 1))

    def test_a_kinds_name_goes_ahead_of_its_fields(self):
        self.assertEqual(refused((ONE, ("one", (self.broken,)))), (1, None))
        self.assertEqual(refused((ONE, ("One", (self.broken,)))), (1, None))

    def test_form_goes_ahead_of_kinds_that_are_not_there(self):
        self.assertEqual(refused((("top", (self.lost,)), ("two", (NUMBER, self.broken)))), (1, 1))
        self.assertEqual(refused((("top", (self.lost,)), ("two", ()))), (1, None))
        self.assertEqual(refused(of_fields(self.lost, NUMBER, ("row", "r", "One", ("of", "n")))), (0, 2))
        self.assertEqual(refused(of_fields(self.lost, ("carried", "k", ("is", 1), 5))), (0, 1))

    def test_kinds_that_are_not_there_go_ahead_of_circles(self):
        circle = ("carried", "k", ("is", 1), "top")
        self.assertEqual(refused(of_fields(circle, self.lost)), (0, 1))
        self.assertEqual(refused(of_fields(circle, NUMBER)), (0, 0))

    def test_circles_go_ahead_of_rests(self):
        circle = ("carried", "k", ("is", 1), "top")
        self.assertEqual(refused(of_fields(self.rest, circle)), (0, 1))
        row = ("row", "r", "two", ("of", "n"))
        self.assertEqual(refused((("top", (NUMBER, row)), ("two", (("carried", "k", ("is", 0), "two"),)))), (1, 0))

    def test_of_rests_and_rows_the_first(self):
        none = ("none", (("bytes", "b", ("is", 0)),))
        row = ("row", "r", "none", ("of", "n"))
        self.assertEqual(refused((("top", (NUMBER, row, self.rest, NUMBER[:1] + ("m",) + NUMBER[2:])), none)), (0, 1))
        self.assertEqual(refused((("top", (NUMBER, self.rest, row)), none)), (0, 1))
        self.assertEqual(refused((("top", (NUMBER, row)), none, ("two", (self.rest, NUMBER)))), (0, 1))
        self.assertEqual(refused((("top", (self.rest, NUMBER)), ("two", (NUMBER, row)), none)), (0, 0))


def widest(last):
    """Ten kinds of eight fields; each of six ways leads to the next kind, that of the last one as told."""
    names = "abcdefghij"
    kinds = []
    for number, name in enumerate(names):
        inner = last if number == 9 else names[number + 1]
        fields = [NUMBER]
        for place in range(7):
            ways = tuple((worth, inner) for worth in range(6))
            fields.append(("choice", "c" + names[place], "n", ways))
        kinds.append((name, tuple(fields)))
    return tuple(kinds)


class InNoTime(unittest.TestCase):
    def test_many_ways_to_few_kinds(self):
        begin = time.monotonic()
        self.assertEqual(refused(widest("a")), (0, 1))
        self.assertEqual(refused(widest("j")), (9, 1))
        self.assertEqual(refused(widest("k")), (9, 1))
        grammar = widest("k")[:9] + (("j", (NUMBER,)),)
        self.assertIsNone(refused(grammar))
        self.assertEqual(least_of(grammar, "a"), sum(7 ** power for power in range(10)))
        resting = grammar[:9] + (("j", (("bytes", "b", ("rest",)),)),)
        self.assertEqual(refused(resting), (0, 1))
        carried = []
        for number, name in enumerate("abcdefghi"):
            inner = "abcdefghij"[number + 1]
            carried.append((name, tuple(("carried", part, ("is", 400), inner) for part in "abcdefgh")))
        self.assertIsNone(refused(tuple(carried) + (("j", (("bytes", "b", ("rest",)),)),)))
        self.assertLess(time.monotonic() - begin, 5)


class Told(unittest.TestCase):
    def test_kinds_and_fields(self):
        self.assertEqual(kinds_of(EACH), ["letter", "one", "two"])
        self.assertEqual(fields_of(EACH, "letter"), EACH[0][1])
        self.assertEqual(fields_of(EACH, "two"), EACH[2][1])
        self.assertEqual(fields_of(grammar=EACH, kind="one"), ONE[1])
        self.assertEqual(kinds_of(grammar=EACH), ["letter", "one", "two"])

    def test_told_lists_are_new(self):
        told = kinds_of(EACH)
        told.append("more")
        self.assertEqual(kinds_of(EACH), ["letter", "one", "two"])
        self.assertIsInstance(fields_of(EACH, "one"), tuple)

    def test_no_kind(self):
        for kind in ("three", "", "tag", None, 0, True, [], {}, ("one",), ["one"], object()):
            for told in (fields_of, least_of):
                with self.assertRaises(NoKind) as caught:
                    told(EACH, kind)
                self.assertIs(caught.exception.name, kind)

    def least(self, *fields):
        return least_of(of_fields(*fields), "top")

    def test_least_of_each_kind_of_field(self):
        for size in (1, 2, 3, 4):
            self.assertEqual(self.least(("number", "n", size, "big", 0, 1)), size)
        self.assertEqual(self.least(BITS), 1)
        self.assertEqual(self.least(("text", "t", 9)), 1)
        self.assertEqual(self.least(("sum", "s", "plain")), 1)
        self.assertEqual(self.least(("sum", "s", "placed")), 2)
        self.assertEqual(self.least(("sum", "s", "mixed")), 2)
        self.assertEqual(self.least(("bytes", "b", ("is", 0))), 0)
        self.assertEqual(self.least(("bytes", "b", ("is", 400))), 400)
        self.assertEqual(self.least(("carried", "k", ("is", 5), "one")), 5)
        for field in Rests.rests:
            self.assertEqual(self.least(field), 0)
        self.assertEqual(least_of(grammar=EACH, kind="one"), 1)

    def test_least_by_tags(self):
        three = ("number", "n", 2, "small", 3, 9)
        self.assertEqual(self.least(three, ("bytes", "b", ("of", "n", 1, 0))), 2 + 3)
        self.assertEqual(self.least(three, ("bytes", "b", ("of", "n", 8, 40))), 2 + 64)
        self.assertEqual(self.least(three, ("bytes", "b", ("of", "n", 2, -5))), 2 + 1)
        self.assertEqual(self.least(three, ("bytes", "b", ("of", "n", 2, -6))), 2)
        self.assertEqual(self.least(three, ("bytes", "b", ("of", "n", 2, -7))), 2)
        self.assertEqual(self.least(three, ("carried", "b", ("of", "n", 3, -1), "one")), 2 + 8)
        self.assertEqual(self.least(three, ("carried", "b", ("of", "n", 3, -40), "one")), 2)
        self.assertEqual(self.least(BITS, ("bytes", "b", ("of", "lo", 8, 4))), 1 + 4)
        self.assertEqual(self.least(BITS, ("bytes", "b", ("of", "hi", 8, -4))), 1)
        self.assertEqual(self.least(three, ("row", "r", "one", ("of", "n"))), 2 + 3)
        self.assertEqual(self.least(BITS, ("row", "r", "one", ("of", "lo"))), 1)

    def test_least_of_choices_and_rows_of_longer_kinds(self):
        grammar = (
            ("top", (("number", "n", 1, "big", 2, 9), ("row", "r", "pair", ("of", "n")),
                     ("choice", "c", "n", ((2, "pair"), (3, "short"))))),
            ("pair", (("number", "a", 2, "big", 0, 1), ("bytes", "b", ("is", 3)))),
            ("short", (("bytes", "b", ("is", 4)),)),
        )
        self.assertIsNone(refused(grammar))
        self.assertEqual([least_of(grammar, kind) for kind in ("top", "pair", "short")], [1 + 10 + 4, 5, 4])

    def test_least_of_a_choice_that_goes_to_the_rest(self):
        grammar = (
            ("top", (NUMBER, ("choice", "c", "n", ((0, "two"), (1, "rest"))))),
            ("two", (("bytes", "b", ("is", 2)),)),
            ("rest", (NUMBER, ("bytes", "b", ("rest",)), ("sum", "s", "placed"))),
        )
        self.assertIsNone(refused(grammar))
        self.assertEqual([least_of(grammar, kind) for kind in ("top", "two", "rest")], [3, 2, 3])

    def test_least_of_all_fields_together(self):
        self.assertEqual(least_of(EACH, "letter"), 2 + 1 + 0 + 1 + 1 + 1 + 7 + 2)


class Interface(unittest.TestCase):
    def test_each_stands_in_its_file(self):
        for name in ("look_at_grammar", "kinds_of", "fields_of", "least_of"):
            self.assertEqual(getattr(grammars, name).__module__, "letterbench.grammars")


if __name__ == "__main__":
    unittest.main()
