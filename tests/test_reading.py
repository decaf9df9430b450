"""Promises 7, 8 and 9, as far as it speaks of reading: spreads, and the fields of good letters."""

import unittest

from letterbench import reading
from letterbench.errors import NoKind, NoLetter
from letterbench.grammars import look_at_grammar
from letterbench.reading import fields_in, is_good, spreads_of

NUMBER = ("number", "n", 1, "big", 0, 9)
PAIR = ("pair", (("number", "x", 1, "big", 0, 255), ("number", "y", 2, "small", 0, 1000)))

RICH = (
    ("letter", (
        ("number", "size", 2, "big", 0, 500),
        ("bits", (("flag", 1), ("ways", 3), ("many", 4))),
        ("text", "name", 0),
        ("choice", "body", "ways", ((0, "pair"), (1, "blob"))),
        ("row", "rows", "pair", ("of", "many")),
        ("carried", "room", ("of", "size", 1, -1), "inner"),
        ("bytes", "tail", ("rest",)),
        ("sum", "check", "placed"),
    )),
    PAIR,
    ("blob", (("bytes", "data", ("is", 3)), ("sum", "own", "plain"))),
    ("inner", (("number", "id", 1, "big", 5, 6), ("bytes", "none", ("is", 0)))),
)


def with_sum(some):
    placed = sum([(place + 1) * byte for place, byte in enumerate(some)]) % 65521
    return some + (placed // 256, placed % 256)


WHOLE = with_sum((
    0, 4,
    0b10010010,
    104, 105, 0,
    1, 2, 3, 6,
    7, 1, 0,
    8, 2, 0,
    5, 90, 91,
    70, 71,
))
WHOLE_SPREADS = [
    (0, 2, ("size",), "number", 4),
    (2, 3, ("flag",), "bits", (1, 1, 2)),
    (3, 6, ("name",), "text", (104, 105)),
    (6, 9, ("body", "data"), "bytes", (1, 2, 3)),
    (9, 10, ("body", "own"), "sum", 6),
    (10, 11, ("rows", 0, "x"), "number", 7),
    (11, 13, ("rows", 0, "y"), "number", 1),
    (13, 14, ("rows", 1, "x"), "number", 8),
    (14, 16, ("rows", 1, "y"), "number", 2),
    (16, 17, ("room", "id"), "number", 5),
    (17, 17, ("room", "none"), "bytes", ()),
    (17, 19, ("room",), "unknown", "left"),
    (19, 21, ("tail",), "bytes", (70, 71)),
    (21, 23, ("check",), "sum", WHOLE[21] * 256 + WHOLE[22]),
]


class Cases(unittest.TestCase):
    def read(self, grammar, some, *expected, kind=None):
        """Reads and compares; every reading lies in a row from the first byte to the last."""
        self.assertIsNone(look_at_grammar(grammar))
        told = spreads_of(grammar, some, kind=kind)
        self.assertEqual(told, list(expected))
        self.assert_in_a_row(told, some)
        bad = [spread for spread in expected if spread[3] in ("lacking", "faulty")]
        self.assertIs(is_good(told), not bad)
        if bad:
            with self.assertRaises(NoLetter) as caught:
                fields_in(grammar, some, kind=kind)
            self.assertIsNone(caught.exception.number)

    def assert_in_a_row(self, told, some):
        at = 0
        for begin, end, path, what, worth in told:
            self.assertEqual(begin, at)
            self.assertGreaterEqual(end, begin)
            self.assertIsInstance(path, tuple)
            self.assertIn(what, ("number", "bits", "bytes", "text", "sum", "unknown", "lacking", "faulty"))
            at = end
        self.assertEqual(at, len(some))


class WholeLetters(Cases):
    def test_each_kind_of_field(self):
        self.read(RICH, WHOLE, *WHOLE_SPREADS)

    def test_its_fields(self):
        self.assertEqual(fields_in(RICH, WHOLE), {
            "size": 4,
            "flag": 1, "ways": 1, "many": 2,
            "name": (104, 105),
            "body": ("blob", {"data": (1, 2, 3), "own": 6}),
            "rows": [{"x": 7, "y": 1}, {"x": 8, "y": 2}],
            "room": ("inner", {"id": 5, "none": ()}),
            "tail": (70, 71),
            "check": WHOLE[21] * 256 + WHOLE[22],
        })

    def test_numbers_in_both_orders(self):
        grammar = (("top", (("number", "a", 4, "big", 0, 2 ** 32 - 1), ("number", "b", 3, "small", 0, 2 ** 24 - 1))),)
        self.read(grammar, (1, 2, 3, 4, 1, 2, 3), (0, 4, ("a",), "number", 0x01020304),
                  (4, 7, ("b",), "number", 0x030201))

    def test_bits_the_first_part_is_the_highest(self):
        grammar = (("top", (("bits", (("a", 1), ("b", 2), ("c", 5))), ("bits", (("d", 7), ("e", 1))))),)
        self.read(grammar, (0b10111010, 0b00000111), (0, 1, ("a",), "bits", (1, 1, 26)), (1, 2, ("d",), "bits", (3, 1)))
        self.assertEqual(fields_in(grammar, (0b10111010, 7)), {"a": 1, "b": 1, "c": 26, "d": 3, "e": 1})

    def test_texts(self):
        grammar = (("top", (("text", "a", 0), ("text", "b", 255))),)
        self.read(grammar, (0, 1, 0, 255), (0, 1, ("a",), "text", ()), (1, 4, ("b",), "text", (1, 0)))
        self.assertEqual(fields_in(grammar, (0, 1, 0, 255)), {"a": (), "b": (1, 0)})

    def test_lengths_of_bytes(self):
        grammar = (("top", (NUMBER, ("bytes", "a", ("is", 2)), ("bytes", "b", ("of", "n", 2, -1)),
                            ("bytes", "c", ("rest",)))),)
        self.read(grammar, (1, 20, 21, 30, 40, 41), (0, 1, ("n",), "number", 1), (1, 3, ("a",), "bytes", (20, 21)),
                  (3, 4, ("b",), "bytes", (30,)), (4, 6, ("c",), "bytes", (40, 41)))
        self.read(grammar, (2, 20, 21, 30, 31, 32), (0, 1, ("n",), "number", 2), (1, 3, ("a",), "bytes", (20, 21)),
                  (3, 6, ("b",), "bytes", (30, 31, 32)), (6, 6, ("c",), "bytes", ()))

    def test_no_bytes_have_a_spread_of_none(self):
        grammar = (("top", (("bytes", "a", ("is", 0)), ("bytes", "b", ("rest",)))),)
        self.read(grammar, (), (0, 0, ("a",), "bytes", ()), (0, 0, ("b",), "bytes", ()))
        self.assertEqual(fields_in(grammar, ()), {"a": (), "b": ()})

    def test_choices_by_numbers_and_parts(self):
        grammar = (("top", (("bits", (("a", 4), ("b", 4))), ("choice", "c", "b", ((3, "one"), (0, "pair"))))),
                   ("one", (NUMBER,)), PAIR)
        self.read(grammar, (0x33, 5), (0, 1, ("a",), "bits", (3, 3)), (1, 2, ("c", "n"), "number", 5))
        self.assertEqual(fields_in(grammar, (0x33, 5)), {"a": 3, "b": 3, "c": ("one", {"n": 5})})
        self.read(grammar, (0x30, 5, 6, 0), (0, 1, ("a",), "bits", (3, 0)), (1, 2, ("c", "x"), "number", 5),
                  (2, 4, ("c", "y"), "number", 6))
        self.assertEqual(fields_in(grammar, (0x30, 5, 6, 0)), {"a": 3, "b": 0, "c": ("pair", {"x": 5, "y": 6})})

    def test_rows_of_none(self):
        grammar = (("top", (NUMBER, ("row", "r", "pair", ("of", "n")), ("row", "t", "pair", ("rest",)))), PAIR)
        self.read(grammar, (0,), (0, 1, ("n",), "number", 0))
        self.assertEqual(fields_in(grammar, (0,)), {"n": 0, "r": [], "t": []})

    def test_rows_till_the_room_ends(self):
        grammar = (("top", (("row", "r", "pair", ("rest",)),)), PAIR)
        self.read(grammar, (1, 2, 0, 3, 4, 0), (0, 1, ("r", 0, "x"), "number", 1), (1, 3, ("r", 0, "y"), "number", 2),
                  (3, 4, ("r", 1, "x"), "number", 3), (4, 6, ("r", 1, "y"), "number", 4))
        self.assertEqual(fields_in(grammar, (1, 2, 0, 3, 4, 0)), {"r": [{"x": 1, "y": 2}, {"x": 3, "y": 4}]})

    def test_rows_within_rows(self):
        grammar = (("top", (("row", "r", "list", ("rest",)),)), ("list", (NUMBER, ("row", "i", "one", ("of", "n")))),
                   ("one", (("number", "a", 1, "big", 0, 255),)))
        self.read(grammar, (2, 8, 9, 0, 1, 7), (0, 1, ("r", 0, "n"), "number", 2),
                  (1, 2, ("r", 0, "i", 0, "a"), "number", 8), (2, 3, ("r", 0, "i", 1, "a"), "number", 9),
                  (3, 4, ("r", 1, "n"), "number", 0), (4, 5, ("r", 2, "n"), "number", 1),
                  (5, 6, ("r", 2, "i", 0, "a"), "number", 7))
        self.assertEqual(fields_in(grammar, (2, 8, 9, 0, 1, 7)), {"r": [
            {"n": 2, "i": [{"a": 8}, {"a": 9}]}, {"n": 0, "i": []}, {"n": 1, "i": [{"a": 7}]}]})

    def test_a_sum_is_of_its_own_thing(self):
        part = ("part", (("bytes", "b", ("is", 2)), ("sum", "s", "plain"), ("bytes", "d", ("is", 1)),
                         ("sum", "t", "plain")))
        grammar = (("top", (("number", "a", 1, "big", 0, 255), ("choice", "c", "a", ((7, "part"),)),
                            ("row", "r", "part", ("of", "a")), ("sum", "s", "plain"))), part)
        one = (1, 2, 3, 9, 15)
        some = (7,) + one * 8
        told = spreads_of(grammar, some + (sum(some) % 256,))
        self.assertTrue(is_good(told))
        self.assertEqual(told[3:5], [(4, 5, ("c", "d"), "bytes", (9,)), (5, 6, ("c", "t"), "sum", 15)])
        self.assertEqual(told[-1], (41, 42, ("s",), "sum", sum(some) % 256))

    def test_a_sum_of_no_bytes(self):
        grammar = (("top", (("sum", "a", "mixed"), ("sum", "b", "plain"))),)
        self.read(grammar, (21, 5, 26), (0, 2, ("a",), "sum", 5381), (2, 3, ("b",), "sum", 26))

    def test_carried_rooms(self):
        grammar = (("top", (NUMBER, ("carried", "k", ("of", "n", 1, 0), "pair"), ("carried", "l", ("rest",), "pair"))),
                   PAIR)
        self.read(grammar, (3, 1, 2, 0, 4, 5, 0), (0, 1, ("n",), "number", 3), (1, 2, ("k", "x"), "number", 1),
                  (2, 4, ("k", "y"), "number", 2), (4, 5, ("l", "x"), "number", 4), (5, 7, ("l", "y"), "number", 5))
        self.assertEqual(fields_in(grammar, (3, 1, 2, 0, 4, 5, 0)), {
            "n": 3, "k": ("pair", {"x": 1, "y": 2}), "l": ("pair", {"x": 4, "y": 5})})

    def test_a_carried_room_of_empty_rows(self):
        grammar = (("top", (("carried", "k", ("is", 0), "rows"),)), ("rows", (("row", "r", "pair", ("rest",)),)), PAIR)
        self.read(grammar, ())
        self.assertEqual(fields_in(grammar, ()), {"k": ("rows", {"r": []})})

    def test_by_another_kind(self):
        self.read(RICH, (7, 1, 1), (0, 1, ("x",), "number", 7), (1, 3, ("y",), "number", 257), kind="pair")
        self.assertEqual(fields_in(RICH, (7, 1, 1), kind="pair"), {"x": 7, "y": 257})
        self.read(RICH, WHOLE, *WHOLE_SPREADS, kind="letter")
        self.read(RICH, WHOLE, *WHOLE_SPREADS, kind=None)

    def test_no_kind(self):
        for kind in ("nowhere", "", 0, True, ("pair",), [], {}):
            for told in (spreads_of, fields_in):
                with self.assertRaises(NoKind) as caught:
                    told(RICH, WHOLE, kind=kind)
                self.assertIs(caught.exception.name, kind)


class Longer(Cases):
    def test_bytes_behind_the_whole_letter(self):
        grammar = (("top", (NUMBER,)),)
        self.read(grammar, (1, 2, 3), (0, 1, ("n",), "number", 1), (1, 3, (), "unknown", "left"))
        self.assertEqual(fields_in(grammar, (1, 2, 3)), {"n": 1})

    def test_nothing_is_left(self):
        self.read((("top", (NUMBER,)),), (1,), (0, 1, ("n",), "number", 1))

    def test_bytes_left_in_a_room(self):
        grammar = (("top", (("carried", "k", ("is", 3), "one"), NUMBER)), ("one", (("number", "a", 1, "big", 0, 255),)))
        self.read(grammar, (1, 2, 3, 4, 5), (0, 1, ("k", "a"), "number", 1), (1, 3, ("k",), "unknown", "left"),
                  (3, 4, ("n",), "number", 4), (4, 5, (), "unknown", "left"))
        self.assertEqual(fields_in(grammar, (1, 2, 3, 4, 5)), {"k": ("one", {"a": 1}), "n": 4})

    def test_left_in_a_room_within_a_row(self):
        grammar = (("top", (("row", "r", "item", ("rest",)),)), ("item", (("carried", "k", ("is", 2), "one"),)),
                   ("one", (("number", "a", 1, "big", 0, 255),)))
        self.read(grammar, (1, 2, 3, 4), (0, 1, ("r", 0, "k", "a"), "number", 1),
                  (1, 2, ("r", 0, "k"), "unknown", "left"), (2, 3, ("r", 1, "k", "a"), "number", 3),
                  (3, 4, ("r", 1, "k"), "unknown", "left"))


class Short(Cases):
    def test_of_no_bytes(self):
        self.read((("top", (NUMBER,)),), (), (0, 0, ("n",), "lacking", "short"))

    def test_number(self):
        grammar = (("top", (("number", "a", 4, "big", 5, 6), NUMBER)),)
        for many in range(4):
            some = (9,) * many
            self.read(grammar, some, (0, many, ("a",), "lacking", "short"))

    def test_bits_go_by_their_first_part(self):
        grammar = (("top", (NUMBER, ("bits", (("hi", 1), ("lo", 7))))),)
        self.read(grammar, (4,), (0, 1, ("n",), "number", 4), (1, 1, ("hi",), "lacking", "short"))

    def test_bytes(self):
        grammar = (("top", (NUMBER, ("bytes", "b", ("of", "n", 1, 0)))),)
        self.read(grammar, (3, 1, 2), (0, 1, ("n",), "number", 3), (1, 3, ("b",), "lacking", "short"))
        self.read(grammar, (3, 1, 2, 3), (0, 1, ("n",), "number", 3), (1, 4, ("b",), "bytes", (1, 2, 3)))
        self.read(grammar, (3,), (0, 1, ("n",), "number", 3), (1, 1, ("b",), "lacking", "short"))

    def test_sum(self):
        grammar = (("top", (("number", "a", 1, "big", 0, 255), ("sum", "s", "placed"))),)
        self.read(grammar, (7,), (0, 1, ("a",), "number", 7), (1, 1, ("s",), "lacking", "short"))
        self.read(grammar, (7, 0), (0, 1, ("a",), "number", 7), (1, 2, ("s",), "lacking", "short"))
        self.read(grammar, (7, 0, 7), (0, 1, ("a",), "number", 7), (1, 3, ("s",), "sum", 7))

    def test_room_is_not_read_inward(self):
        grammar = (("top", (("carried", "k", ("is", 4), "pair"), NUMBER)), PAIR)
        self.read(grammar, (1, 2, 3), (0, 3, ("k",), "lacking", "short"))
        self.read(grammar, (), (0, 0, ("k",), "lacking", "short"))

    def test_thing_of_a_row(self):
        grammar = (("top", (NUMBER, ("row", "r", "pair", ("of", "n")))), PAIR)
        self.read(grammar, (2, 1, 2, 0), (0, 1, ("n",), "number", 2), (1, 2, ("r", 0, "x"), "number", 1),
                  (2, 4, ("r", 0, "y"), "number", 2), (4, 4, ("r", 1, "x"), "lacking", "short"))
        self.read(grammar, (2, 1, 2, 0, 5, 6), (0, 1, ("n",), "number", 2), (1, 2, ("r", 0, "x"), "number", 1),
                  (2, 4, ("r", 0, "y"), "number", 2), (4, 5, ("r", 1, "x"), "number", 5),
                  (5, 6, ("r", 1, "y"), "lacking", "short"))

    def test_thing_of_a_row_to_the_rest(self):
        grammar = (("top", (("row", "r", "pair", ("rest",)),)), PAIR)
        self.read(grammar, (1, 2, 0, 5), (0, 1, ("r", 0, "x"), "number", 1), (1, 3, ("r", 0, "y"), "number", 2),
                  (3, 4, ("r", 1, "x"), "number", 5), (4, 4, ("r", 1, "y"), "lacking", "short"))

    def test_a_row_of_very_many_ends_where_the_bytes_do(self):
        grammar = (("top", (("number", "m", 4, "big", 0, 2 ** 32 - 1), ("row", "r", "pair", ("of", "m")))), PAIR)
        self.read(grammar, (255,) * 4 + (1,), (0, 4, ("m",), "number", 2 ** 32 - 1),
                  (4, 5, ("r", 0, "x"), "number", 1), (5, 5, ("r", 0, "y"), "lacking", "short"))

    def test_within_a_choice(self):
        grammar = (("top", (NUMBER, ("choice", "c", "n", ((1, "pair"),)), ("number", "z", 1, "big", 0, 9))), PAIR)
        self.read(grammar, (1, 2, 3), (0, 1, ("n",), "number", 1), (1, 2, ("c", "x"), "number", 2),
                  (2, 3, ("c", "y"), "lacking", "short"))

    def test_text_without_its_mark(self):
        grammar = (("top", (NUMBER, ("text", "t", 0), NUMBER[:1] + ("m",) + NUMBER[2:])),)
        self.read(grammar, (1, 65, 66), (0, 1, ("n",), "number", 1), (1, 3, ("t",), "lacking", "mark"))
        self.read(grammar, (1,), (0, 1, ("n",), "number", 1), (1, 1, ("t",), "lacking", "mark"))

    def test_a_text_ends_within_its_room(self):
        grammar = (("top", (("carried", "k", ("is", 2), "word"), ("bytes", "b", ("rest",)))), ("word", (("text", "t", 0),)))
        self.read(grammar, (1, 2, 0), (0, 2, ("k", "t"), "lacking", "mark"), (2, 3, ("b",), "bytes", (0,)))


class Faulty(Cases):
    def test_range(self):
        grammar = (("top", (("number", "a", 2, "big", 5, 300), NUMBER)),)
        self.read(grammar, (0, 5, 1), (0, 2, ("a",), "number", 5), (2, 3, ("n",), "number", 1))
        self.read(grammar, (1, 44, 1), (0, 2, ("a",), "number", 300), (2, 3, ("n",), "number", 1))
        self.read(grammar, (0, 4, 1), (0, 2, ("a",), "faulty", "range"), (2, 3, (), "unknown", "behind"))
        self.read(grammar, (1, 45, 1, 9), (0, 2, ("a",), "faulty", "range"), (2, 4, (), "unknown", "behind"))

    def test_nothing_behind(self):
        grammar = (("top", (NUMBER,)),)
        self.read(grammar, (10,), (0, 1, ("n",), "faulty", "range"))

    def test_sum(self):
        grammar = (("top", (("bytes", "b", ("is", 2)), ("sum", "s", "placed"), NUMBER)),)
        self.read(grammar, (1, 2, 0, 6, 9), (0, 2, ("b",), "bytes", (1, 2)), (2, 4, ("s",), "faulty", "sum"),
                  (4, 5, (), "unknown", "behind"))
        self.read(grammar, (1, 2, 5, 0), (0, 2, ("b",), "bytes", (1, 2)), (2, 4, ("s",), "faulty", "sum"))

    def test_length(self):
        for field in (("bytes", "b", ("of", "n", 2, -3)), ("carried", "b", ("of", "n", 2, -3), "pair")):
            grammar = (("top", (NUMBER, field, ("text", "t", 0))), PAIR)
            self.read(grammar, (1, 7, 0), (0, 1, ("n",), "number", 1), (1, 1, ("b",), "faulty", "length"),
                      (1, 3, (), "unknown", "behind"))
            self.read(grammar, (0,), (0, 1, ("n",), "number", 0), (1, 1, ("b",), "faulty", "length"))
        grammar = (("top", (NUMBER, ("bytes", "b", ("of", "n", 2, -4)))),)
        self.read(grammar, (2,), (0, 1, ("n",), "number", 2), (1, 1, ("b",), "bytes", ()))

    def test_behind_goes_by_the_thing(self):
        grammar = (("top", (NUMBER, ("row", "r", "item", ("rest",)))),
                   ("item", (("number", "w", 1, "big", 0, 1), ("choice", "c", "w", ((1, "one"), (0, "two"))))),
                   ("one", (("number", "a", 1, "big", 0, 3),)), ("two", (("text", "t", 0),)))
        self.read(grammar, (1, 0, 5, 0, 1, 9, 8), (0, 1, ("n",), "number", 1), (1, 2, ("r", 0, "w"), "number", 0),
                  (2, 4, ("r", 0, "c", "t"), "text", (5,)), (4, 5, ("r", 1, "w"), "number", 1),
                  (5, 6, ("r", 1, "c", "a"), "faulty", "range"), (6, 7, ("r", 1, "c"), "unknown", "behind"))
        self.read(grammar, (1, 7, 8), (0, 1, ("n",), "number", 1), (1, 2, ("r", 0, "w"), "faulty", "range"),
                  (2, 3, ("r", 0), "unknown", "behind"))

    def test_a_cut_number_lacks_whatever_its_bytes(self):
        self.read((("top", (("number", "a", 2, "big", 5, 6),)),), (255,), (0, 1, ("a",), "lacking", "short"))


class UnknownChoices(Cases):
    grammar = (("top", (NUMBER, ("choice", "c", "n", ((1, "pair"),)), ("text", "t", 0), ("sum", "s", "plain"))), PAIR)

    def test_what_is_left_of_the_room(self):
        self.read(self.grammar, (2, 8, 9), (0, 1, ("n",), "number", 2), (1, 3, ("c",), "unknown", "choice"))
        self.assertEqual(fields_in(self.grammar, (2, 8, 9)), {"n": 2})

    def test_nothing_is_left(self):
        self.read(self.grammar, (2,), (0, 1, ("n",), "number", 2), (1, 1, ("c",), "unknown", "choice"))
        self.assertEqual(fields_in(self.grammar, (2,)), {"n": 2})

    def test_in_a_room(self):
        grammar = (("top", (("carried", "k", ("is", 3), "mid"), ("number", "z", 1, "big", 0, 9))),
                   ("mid", self.grammar[0][1]), PAIR)
        self.read(grammar, (2, 8, 9, 4, 5), (0, 1, ("k", "n"), "number", 2), (1, 3, ("k", "c"), "unknown", "choice"),
                  (3, 4, ("z",), "number", 4), (4, 5, (), "unknown", "left"))
        self.assertEqual(fields_in(grammar, (2, 8, 9, 4, 5)), {"k": ("mid", {"n": 2}), "z": 4})

    def test_in_a_row(self):
        grammar = (("top", (("row", "r", "item", ("rest",)),)), ("item", (NUMBER, ("choice", "c", "n", ((1, "pair"),)))),
                   PAIR)
        self.read(grammar, (1, 7, 8, 0, 5, 1), (0, 1, ("r", 0, "n"), "number", 1), (1, 2, ("r", 0, "c", "x"), "number", 7),
                  (2, 4, ("r", 0, "c", "y"), "number", 8), (4, 5, ("r", 1, "n"), "number", 5),
                  (5, 6, ("r", 1, "c"), "unknown", "choice"))
        self.assertEqual(fields_in(grammar, (1, 7, 8, 0, 5, 1)),
                         {"r": [{"n": 1, "c": ("pair", {"x": 7, "y": 8})}, {"n": 5}]})

    def test_in_a_choice(self):
        grammar = (("top", (NUMBER, ("choice", "d", "n", ((1, "mid"),)))), ("mid", self.grammar[0][1]), PAIR)
        self.read(grammar, (1, 2, 3), (0, 1, ("n",), "number", 1), (1, 2, ("d", "n"), "number", 2),
                  (2, 3, ("d", "c"), "unknown", "choice"))
        self.assertEqual(fields_in(grammar, (1, 2, 3)), {"n": 1, "d": ("mid", {"n": 2})})


class Rooms(Cases):
    """A reading that ended early in a room; the outer kind goes on behind it."""

    grammar = (("top", (("carried", "k", ("is", 4), "mid"), NUMBER, ("sum", "s", "plain"))),
               ("mid", (("number", "a", 1, "big", 0, 9), ("carried", "l", ("of", "a", 1, -1), "pair"),
                        ("bytes", "b", ("is", 1)))), PAIR)

    def test_cut_short(self):
        self.read(self.grammar, (4, 1, 2, 0, 9, 16), (0, 1, ("k", "a"), "number", 4), (1, 2, ("k", "l", "x"), "number", 1),
                  (2, 4, ("k", "l", "y"), "number", 2), (4, 4, ("k", "b"), "lacking", "short"),
                  (4, 5, ("n",), "number", 9), (5, 6, ("s",), "sum", 16))

    def test_a_room_too_long_for_the_one_around_it(self):
        self.read(self.grammar, (9, 1, 2, 0, 1, 13), (0, 1, ("k", "a"), "number", 9), (1, 4, ("k", "l"), "lacking", "short"),
                  (4, 5, ("n",), "number", 1), (5, 6, ("s",), "sum", 13))

    def test_cut_short_in_the_inner_room(self):
        self.read(self.grammar, (3, 1, 2, 0, 1, 7), (0, 1, ("k", "a"), "number", 3), (1, 2, ("k", "l", "x"), "number", 1),
                  (2, 3, ("k", "l", "y"), "lacking", "short"), (3, 4, ("k", "b"), "bytes", (0,)),
                  (4, 5, ("n",), "number", 1), (5, 6, ("s",), "sum", 7))

    def test_faulty_in_the_room(self):
        self.read(self.grammar, (10, 1, 2, 0, 1, 14), (0, 1, ("k", "a"), "faulty", "range"),
                  (1, 4, ("k",), "unknown", "behind"), (4, 5, ("n",), "number", 1), (5, 6, ("s",), "sum", 14))
        self.read(self.grammar, (0, 1, 2, 3, 1, 7), (0, 1, ("k", "a"), "number", 0), (1, 1, ("k", "l"), "faulty", "length"),
                  (1, 4, ("k",), "unknown", "behind"), (4, 5, ("n",), "number", 1), (5, 6, ("s",), "sum", 7))

    def test_faulty_in_a_row_in_the_room(self):
        grammar = (("top", (("carried", "k", ("is", 3), "rows"), NUMBER)), ("rows", (("row", "r", "one", ("rest",)),)),
                   ("one", (("number", "a", 1, "big", 0, 9),)))
        self.read(grammar, (1, 10, 3, 4), (0, 1, ("k", "r", 0, "a"), "number", 1), (1, 2, ("k", "r", 1, "a"), "faulty", "range"),
                  (2, 3, ("k", "r", 1), "unknown", "behind"), (3, 4, ("n",), "number", 4))

    def test_a_room_without_bytes(self):
        grammar = (("top", (("carried", "k", ("is", 0), "pair"), NUMBER)), PAIR)
        self.read(grammar, (4,), (0, 0, ("k", "x"), "lacking", "short"), (0, 1, ("n",), "number", 4))


class RestAheadOfSum(Cases):
    """What goes to the rest ends ahead of the sum's bytes."""

    bytes_grammar = (("top", (NUMBER, ("bytes", "b", ("rest",)), ("sum", "s", "placed"))),)

    def test_bytes(self):
        for middle in ((), (7,), (7, 8, 9)):
            some = with_sum((5,) + middle)
            end = len(middle) + 1
            self.read(self.bytes_grammar, some, (0, 1, ("n",), "number", 5), (1, end, ("b",), "bytes", middle),
                      (end, end + 2, ("s",), "sum", some[-2] * 256 + some[-1]))

    def test_bytes_without_the_sums_bytes(self):
        self.read(self.bytes_grammar, (5,), (0, 1, ("n",), "number", 5), (1, 1, ("b",), "lacking", "short"))
        self.read(self.bytes_grammar, (5, 0), (0, 1, ("n",), "number", 5), (1, 2, ("b",), "lacking", "short"))
        self.read(self.bytes_grammar, (5, 0, 5), (0, 1, ("n",), "number", 5), (1, 1, ("b",), "bytes", ()),
                  (1, 3, ("s",), "sum", 5))

    def test_rows(self):
        grammar = (("top", (("row", "r", "pair", ("rest",)), ("sum", "s", "plain"))), PAIR)
        self.read(grammar, (0,), (0, 1, ("s",), "sum", 0))
        self.read(grammar, (), (0, 0, ("r",), "lacking", "short"))
        self.read(grammar, (1, 2, 0, 3), (0, 1, ("r", 0, "x"), "number", 1), (1, 3, ("r", 0, "y"), "number", 2),
                  (3, 4, ("s",), "sum", 3))
        # The second thing may not have the sum's byte; what is left of the room has it.
        self.read(grammar, (1, 2, 0, 4, 5, 6), (0, 1, ("r", 0, "x"), "number", 1), (1, 3, ("r", 0, "y"), "number", 2),
                  (3, 4, ("r", 1, "x"), "number", 4), (4, 6, ("r", 1, "y"), "lacking", "short"))

    def test_faulty_things_ahead_of_a_sum(self):
        grammar = (("top", (("row", "r", "one", ("rest",)), ("sum", "s", "placed"))), ("one", (NUMBER,)))
        self.read(grammar, (1, 10, 3, 0, 0), (0, 1, ("r", 0, "n"), "number", 1), (1, 2, ("r", 1, "n"), "faulty", "range"),
                  (2, 5, ("r", 1), "unknown", "behind"))

    def test_texts_end_ahead_of_the_sum(self):
        grammar = (("top", (("row", "r", "word", ("rest",)), ("sum", "s", "plain"))), ("word", (("text", "t", 0),)))
        self.read(grammar, (1, 0), (0, 2, ("r", 0, "t"), "lacking", "mark"))
        self.read(grammar, (1, 0, 1), (0, 2, ("r", 0, "t"), "text", (1,)), (2, 3, ("s",), "sum", 1))

    def test_rooms(self):
        grammar = (("top", (("carried", "k", ("rest",), "pair"), ("sum", "s", "placed"))), PAIR)
        self.read(grammar, (0,), (0, 1, ("k",), "lacking", "short"))
        some = with_sum((1, 2, 0))
        self.read(grammar, some, (0, 1, ("k", "x"), "number", 1), (1, 3, ("k", "y"), "number", 2),
                  (3, 5, ("s",), "sum", 5))
        some = with_sum((1, 2, 0, 9, 9))
        self.read(grammar, some, (0, 1, ("k", "x"), "number", 1), (1, 3, ("k", "y"), "number", 2),
                  (3, 5, ("k",), "unknown", "left"), (5, 7, ("s",), "sum", some[5] * 256 + some[6]))
        # A room has its own end: what stops in it leaves the sum's bytes alone.
        some = with_sum((1, 2))
        self.read(grammar, some, (0, 1, ("k", "x"), "number", 1), (1, 2, ("k", "y"), "lacking", "short"),
                  (2, 4, ("s",), "sum", 5))

    choice_grammar = (
        ("top", (("number", "w", 1, "big", 0, 9), ("choice", "c", "w", ((0, "all"), (1, "pair"), (2, "own"))),
                 ("sum", "s", "placed"))),
        PAIR,
        ("all", (NUMBER, ("bytes", "b", ("rest",)))),
        ("own", (("bytes", "b", ("rest",)), ("sum", "t", "plain"))),
    )

    def test_choices(self):
        some = with_sum((0, 3, 8, 9))
        self.read(self.choice_grammar, some, (0, 1, ("w",), "number", 0), (1, 2, ("c", "n"), "number", 3),
                  (2, 4, ("c", "b"), "bytes", (8, 9)), (4, 6, ("s",), "sum", some[4] * 256 + some[5]))
        some = with_sum((2, 3, 8, 11))
        self.read(self.choice_grammar, some, (0, 1, ("w",), "number", 2), (1, 3, ("c", "b"), "bytes", (3, 8)),
                  (3, 4, ("c", "t"), "sum", 11), (4, 6, ("s",), "sum", some[4] * 256 + some[5]))

    def test_a_way_that_does_not_go_to_the_rest(self):
        some = with_sum((1, 7, 8, 0))
        self.read(self.choice_grammar, some, (0, 1, ("w",), "number", 1), (1, 2, ("c", "x"), "number", 7),
                  (2, 4, ("c", "y"), "number", 8), (4, 6, ("s",), "sum", some[4] * 256 + some[5]))
        self.read(self.choice_grammar, some + (1,), (0, 1, ("w",), "number", 1), (1, 2, ("c", "x"), "number", 7),
                  (2, 4, ("c", "y"), "number", 8), (4, 6, ("s",), "sum", some[4] * 256 + some[5]),
                  (6, 7, (), "unknown", "left"))
        # The choice's room ends ahead of the sum's bytes whichever way it goes.
        self.read(self.choice_grammar, (1, 7, 8, 0, 1), (0, 1, ("w",), "number", 1), (1, 2, ("c", "x"), "number", 7),
                  (2, 5, ("c", "y"), "lacking", "short"))

    def test_a_choice_without_the_sums_bytes(self):
        for way in (0, 1, 2):
            self.read(self.choice_grammar, (way,), (0, 1, ("w",), "number", way), (1, 1, ("c",), "lacking", "short"))
            self.read(self.choice_grammar, (way, 5), (0, 1, ("w",), "number", way), (1, 2, ("c",), "lacking", "short"))

    def test_a_choice_with_just_the_sums_bytes(self):
        self.read(self.choice_grammar, (0, 5, 6), (0, 1, ("w",), "number", 0), (1, 3, ("c", "n"), "lacking", "short"))
        self.read(self.choice_grammar, (2, 5, 6), (0, 1, ("w",), "number", 2), (1, 3, ("c", "b"), "lacking", "short"))
        self.read(self.choice_grammar, (2, 5, 5, 6), (0, 1, ("w",), "number", 2), (1, 1, ("c", "b"), "bytes", ()),
                  (1, 2, ("c", "t"), "faulty", "sum"), (2, 4, ("c",), "unknown", "behind"))

    def test_a_choice_of_no_way(self):
        self.read(self.choice_grammar, (5,), (0, 1, ("w",), "number", 5), (1, 1, ("c",), "unknown", "choice"))
        self.read(self.choice_grammar, (5, 6), (0, 1, ("w",), "number", 5), (1, 2, ("c",), "unknown", "choice"))
        self.read(self.choice_grammar, (5, 6, 7, 8), (0, 1, ("w",), "number", 5), (1, 4, ("c",), "unknown", "choice"))

    def test_a_choice_that_does_not_go_to_the_rest_has_all_the_room(self):
        grammar = (("top", (NUMBER, ("choice", "c", "n", ((1, "pair"),)), ("sum", "s", "placed"))), PAIR)
        self.read(grammar, (1, 7, 8, 0), (0, 1, ("n",), "number", 1), (1, 2, ("c", "x"), "number", 7),
                  (2, 4, ("c", "y"), "number", 8), (4, 4, ("s",), "lacking", "short"))

    def test_choices_within_choices(self):
        grammar = (
            ("top", (("number", "w", 1, "big", 0, 9), ("choice", "c", "w", ((0, "mid"),)), ("sum", "s", "plain"))),
            ("mid", (("number", "v", 1, "big", 0, 9), ("choice", "d", "v", ((0, "deep"),)), ("sum", "t", "plain"))),
            ("deep", (("bytes", "b", ("rest",)), ("sum", "u", "plain"))),
        )
        ahead = ((0, 1, ("w",), "number", 0), (1, 2, ("c", "v"), "number", 0))
        self.read(grammar, (0, 0, 7, 7, 14, 28), *ahead, (2, 3, ("c", "d", "b"), "bytes", (7,)),
                  (3, 4, ("c", "d", "u"), "sum", 7), (4, 5, ("c", "t"), "sum", 14), (5, 6, ("s",), "sum", 28))
        self.read(grammar, (0, 0, 0, 0, 0), *ahead, (2, 2, ("c", "d", "b"), "bytes", ()),
                  (2, 3, ("c", "d", "u"), "sum", 0), (3, 4, ("c", "t"), "sum", 0), (4, 5, ("s",), "sum", 0))
        self.read(grammar, (0, 0, 0, 0), *ahead, (2, 4, ("c", "d", "b"), "lacking", "short"))
        self.read(grammar, (0, 0, 0), *ahead, (2, 3, ("c", "d"), "lacking", "short"))
        self.read(grammar, (0, 0), (0, 1, ("w",), "number", 0), (1, 2, ("c", "v"), "lacking", "short"))
        self.read(grammar, (0,), (0, 1, ("w",), "number", 0), (1, 1, ("c",), "lacking", "short"))
        self.read(grammar, (0, 10, 0, 0), (0, 1, ("w",), "number", 0), (1, 2, ("c", "v"), "faulty", "range"),
                  (2, 4, ("c",), "unknown", "behind"))
        self.read(grammar, (0, 9, 0, 0), (0, 1, ("w",), "number", 0), (1, 2, ("c", "v"), "number", 9),
                  (2, 4, ("c", "d"), "unknown", "choice"))

    def test_in_a_room(self):
        grammar = (("top", (("carried", "k", ("is", 3), "mid"), ("bytes", "b", ("rest",)))),
                   ("mid", (NUMBER, ("bytes", "b", ("rest",)), ("sum", "s", "mixed"))))
        self.read(grammar, (1, 2, 3, 4), (0, 1, ("k", "n"), "number", 1), (1, 1, ("k", "b"), "bytes", ()),
                  (1, 3, ("k", "s"), "faulty", "sum"), (3, 4, ("b",), "bytes", (4,)))


class Goodness(unittest.TestCase):
    def test_by_spreads(self):
        self.assertIs(is_good([]), True)
        self.assertIs(is_good(WHOLE_SPREADS), True)
        self.assertIs(is_good(spreads=[(0, 1, (), "unknown", "left")]), True)
        self.assertIs(is_good(WHOLE_SPREADS + [(0, 0, ("a",), "lacking", "short")]), False)
        self.assertIs(is_good([(0, 0, ("a",), "faulty", "length")] + WHOLE_SPREADS), False)

    def test_a_field_may_be_called_so(self):
        self.assertIs(is_good([(0, 1, ("lacking",), "number", 0), (1, 2, ("faulty",), "number", 0)]), True)


class HandedIn(unittest.TestCase):
    def test_told_things_are_new(self):
        told = spreads_of(RICH, WHOLE)
        told.clear()
        self.assertEqual(spreads_of(RICH, WHOLE), WHOLE_SPREADS)
        once = fields_in(RICH, WHOLE)
        again = fields_in(RICH, WHOLE)
        once["rows"][0]["x"] = 99
        once["rows"].append({})
        once["body"][1].clear()
        once["room"][1]["id"] = 0
        once.pop("size")
        self.assertEqual(fields_in(RICH, WHOLE), again)

    def test_spreads_that_are_judged_stay(self):
        spreads = list(WHOLE_SPREADS)
        is_good(spreads)
        self.assertEqual(spreads, WHOLE_SPREADS)

    def test_by_names(self):
        self.assertEqual(spreads_of(grammar=RICH, some=WHOLE, kind=None), WHOLE_SPREADS)
        self.assertEqual(fields_in(grammar=RICH, some=(1, 1, 0), kind="pair"), {"x": 1, "y": 1})

    def test_kind_by_name_alone(self):
        for told in (spreads_of, fields_in):
            with self.assertRaises(TypeError):
                told(RICH, (1, 1, 0), "pair")

    def test_what_is_no_letter_at_all(self):
        for thing in (None, 5, "abc", [1, 2], (256,), (True,), b"\x01"):
            with self.assertRaises(NoLetter) as caught:
                fields_in(RICH, thing)
            self.assertIsNone(caught.exception.number)


class Interface(unittest.TestCase):
    def test_each_stands_in_its_file(self):
        for name in ("spreads_of", "is_good", "fields_in"):
            self.assertEqual(getattr(reading, name).__module__, "letterbench.reading")


if __name__ == "__main__":
    unittest.main()
