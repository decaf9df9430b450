"""Promises 10 and 11, by hand: fields set anew, things put into rows and taken out, and the bars."""

import copy
import unittest

from handmade import DATA, LETTER, POST, fields, post, summed
from letterbench import changing
from letterbench.changing import put_in, set_at, taken_out
from letterbench.errors import Barred, NoLetter, NoNumber, NoPath, NoWorth
from letterbench.grammars import look_at_grammar
from letterbench.reading import fields_in, is_good, spreads_of
from letterbench.writing import written

BYTE = ("number", "n", 1, "big", 0, 9)
ONE = ("one", (("number", "a", 1, "big", 0, 255),))

NO_PATHS = (None, 5, "ver", "len", ["len"], {"len": 1}, (), ("",), ("LEN",), ("nothing",), ("post", "len"), (0,),
            (None,), (["len"],), (("len",),), ("len", 0), ("len", "len"), ("ver", "sort"), ("body",), ("body", "list"),
            ("body", "list", 0), ("body", "list", 0, 0), ("body", "list", 2, "key"), ("body", "list", -1, "key"),
            ("body", "list", True, "key"), ("body", "list", False, "key"), ("body", "list", "0", "key"),
            ("body", "list", None, "key"), ("body", "list", "key"), ("body", "list", 0, "key", "key"),
            ("body", 0, "key"), ("body", "id"), ("body", "pad"), ("data", "many"), ("outer",), ("outer", "core"),
            ("outer", 0, "size"), ("outer", "raw"), ("outer", "core", "plain"), ("outer", "own"), ("check",),
            ("tail", "tail"), ("tail", 0), b"len", frozenset(["len"]), ("len", {}), ("body", "list", [0], "key"))
BAD_LETTERS = (None, 5, "letter", list(LETTER), bytes(LETTER), {}, (True,), (256,), (), LETTER[:-1], LETTER + (0,),
               LETTER[:21] + (LETTER[21] ^ 1,), (0b10010101,) + LETTER[1:], (1, 2, 3))


class Cases(unittest.TestCase):
    def good(self, grammar, some):
        self.assertIsInstance(some, tuple)
        told = spreads_of(grammar, some)
        self.assertTrue(is_good(told))
        self.assertNotIn("unknown", [spread[3] for spread in told])

    def sets(self, grammar, some, path, worth, expected):
        self.assertIsNone(look_at_grammar(grammar))
        self.good(grammar, some)
        told = set_at(grammar, some, path, worth)
        self.assertEqual(told, expected)
        self.good(grammar, told)

    def bars(self, call, path, *handed):
        with self.assertRaises(Barred) as caught:
            call(*handed)
        self.assertEqual(caught.exception.path, path)
        self.assertIsInstance(caught.exception.path, tuple)


class Setting(Cases):
    def test_numbers_of_either_order(self):
        letter = post((3, 1, 77, 78), sort=0)
        self.sets(POST, letter, ("body", "id"), 2, post((2, 0, 77, 78), sort=0))
        self.sets(POST, letter, ("body", "id"), 1000, post((232, 3, 77, 78), sort=0))
        self.sets(POST, letter, ("body", "id"), 1, post((1, 0, 77, 78), sort=0))

    def test_bytes_of_a_fixed_length(self):
        letter = post((3, 1, 77, 78), sort=0)
        self.sets(POST, letter, ("body", "pad"), (0, 255), post((3, 1, 0, 255), sort=0))
        for worth in ((), (1,), (1, 2, 3), (1, 256), [1, 2], None, 12, "ab", b"ab", (True, 1)):
            self.bars(set_at, ("body", "pad"), POST, letter, ("body", "pad"), worth)

    def test_parts(self):
        self.sets(POST, LETTER, ("ver",), 0, post(DATA, ver=0))
        self.sets(POST, LETTER, ("ver",), 3, post(DATA, ver=3))
        self.sets(POST, LETTER, ("flags",), 2, post(DATA, flags=2))

    def test_bytes_to_the_rest(self):
        for worth in ((), (1,), (7, 8, 9), (1,) * 100):
            self.sets(POST, LETTER, ("tail",), worth, post(DATA, tail=worth))

    def test_texts(self):
        for worth in ((), (1, 2, 3, 4, 5), (0, 255)):
            self.sets(POST, LETTER, ("body", "note"), worth, post(DATA[:4] + worth + (10,)))

    def test_to_its_own_worth(self):
        for path, worth in ((("ver",), 2), (("sort",), 1), (("flags",), 5), (("len",), 3), (("body", "many"), 2),
                            (("body", "list", 0, "key"), 4), (("body", "list", 0, "val"), (99,)),
                            (("body", "list", 1, "val"), ()), (("body", "note"), (104, 105)), (("outer", "size"), 4),
                            (("outer", "core", "raw"), (50, 60, 70)), (("tail",), (7, 8, 9))):
            self.sets(POST, LETTER, path, worth, LETTER)

    def test_a_length_in_a_row_is_led_along(self):
        self.sets(POST, LETTER, ("body", "list", 0, "val"), (5, 6, 7), post((2, 6, 5, 6, 7, 3, 104, 105, 10)))
        self.sets(POST, LETTER, ("body", "list", 0, "val"), (), post((2, 3, 3, 104, 105, 10)))
        self.sets(POST, LETTER, ("body", "list", 1, "val"), (0,) * 7, post((2, 4, 99, 10) + (0,) * 7 + (104, 105, 10)))
        self.bars(set_at, ("body", "list", 1, "key"), POST, LETTER, ("body", "list", 1, "val"), (0,) * 8)

    def test_lengths_and_sums_of_rooms_inward_first(self):
        self.sets(POST, LETTER, ("outer", "core", "raw"), (1, 2, 3), post(DATA, core=(1, 2, 3)))
        self.sets(POST, LETTER, ("outer", "core", "raw"), (1, 2, 3, 4, 5), post(DATA, core=(1, 2, 3, 4, 5)))
        self.sets(POST, LETTER, ("outer", "core", "raw"), (9,), post(DATA, core=(9,)))
        self.sets(POST, LETTER, ("outer", "core", "raw"), (0,) * 37, post(DATA, core=(0,) * 37))

    def test_all_else_is_as_it_was(self):
        told = fields_in(POST, set_at(POST, LETTER, ("outer", "core", "raw"), (1, 2, 3, 4, 5)))
        expected = fields()
        expected["outer"][1]["core"][1].update({"raw": (1, 2, 3, 4, 5), "plain": 15})
        expected["outer"][1]["size"] = 6
        expected["outer"][1]["own"] = told["outer"][1]["own"]
        expected["len"] = 4
        expected["check"] = told["check"]
        self.assertEqual(told, expected)

    def test_tags_on_which_nothing_hangs(self):
        grammar = (("top", (BYTE, ("number", "m", 1, "big", 0, 9), ("bytes", "b", ("of", "m", 1, 0)))),)
        self.sets(grammar, (1, 2, 3, 4), ("n",), 9, (9, 2, 3, 4))

    def test_a_bits_tag_is_led_along(self):
        grammar = (("top", (("bits", (("x", 3), ("y", 3), ("z", 2))), ("bytes", "b", ("of", "y", 2, -1)))),)
        self.sets(grammar, (0b10100111, 7), ("b",), (1, 2, 3), (0b10101011, 1, 2, 3))
        self.sets(grammar, (0b10100111, 7), ("b",), (0,) * 13, (0b10111111,) + (0,) * 13)
        for worth in ((), (1, 2), (0,) * 15):
            self.bars(set_at, ("y",), grammar, (0b10100111, 7), ("b",), worth)

    def test_a_room_that_grows_in_a_choice_in_a_row(self):
        grammar = (
            ("top", (("number", "all", 1, "big", 0, 50), ("carried", "room", ("of", "all", 1, -2), "rows"),
                     ("sum", "s", "plain"))),
            ("rows", (("row", "r", "item", ("rest",)),)),
            ("item", (("number", "w", 1, "big", 0, 9), ("choice", "c", "w", ((4, "text"),)), ("sum", "s", "plain"))),
            ("text", (("text", "t", 0),)),
        )
        some = summed("plain", (9, 4, 8, 0, 12, 4, 0, 4))
        self.sets(grammar, some, ("room", "r", 1, "c", "t"), (1, 2, 3),
                  summed("plain", (12, 4, 8, 0, 12, 4, 1, 2, 3, 0, 10)))
        self.sets(grammar, some, ("room", "r", 0, "c", "t"), (), summed("plain", (8, 4, 0, 4, 4, 0, 4)))

    def test_bytes_that_are_longer_than_four_hundred(self):
        grammar = (("top", (("number", "n", 2, "small", 0, 65535), ("bytes", "b", ("of", "n", 4, 0)))),)
        self.sets(grammar, (0, 0), ("b",), (7,) * 1200, (44, 1) + (7,) * 1200)


class Bars(Cases):
    def test_numbers_that_are_none_for_it(self):
        letter = post((3, 1, 77, 78), sort=0)
        for worth in (0, 1001, -1, 2 ** 16, 2 ** 70, True, False, None, "5", (5,), [5], {}, object()):
            self.bars(set_at, ("body", "id"), POST, letter, ("body", "id"), worth)
        for worth in (8, -1, True, None, (1,)):
            self.bars(set_at, ("flags",), POST, LETTER, ("flags",), worth)

    def test_texts_with_their_mark(self):
        for worth in ((10,), (1, 10), (10, 1), [1], None, "text", (300,), 4, {}):
            self.bars(set_at, ("body", "note"), POST, LETTER, ("body", "note"), worth)

    def test_bytes_that_are_none(self):
        for path in (("tail",), ("outer", "core", "raw"), ("body", "list", 0, "val")):
            for worth in (None, 1, "a", [1], b"a", (256,), (-1,), (True,), ((1,),), {}):
                self.bars(set_at, path, POST, LETTER, path, worth)

    def test_tags_that_are_set_themselves(self):
        for path, worth in ((("len",), 2), (("len",), 4), (("sort",), 5), (("sort",), 2), (("body", "many"), 1),
                            (("body", "many"), 3), (("body", "list", 0, "key"), 3), (("body", "list", 1, "key"), 4),
                            (("outer", "size"), 5)):
            self.bars(set_at, path, POST, LETTER, path, worth)

    def test_a_tag_of_a_choice_to_a_worth_of_the_same_kind(self):
        letter = post((3, 1, 77, 78), sort=0)
        self.bars(set_at, ("sort",), POST, letter, ("sort",), 5)
        self.sets(POST, letter, ("sort",), 0, letter)

    def test_a_length_that_no_worth_gives(self):
        for many in (2, 4, 6):
            self.bars(set_at, ("len",), POST, LETTER, ("outer", "core", "raw"), (0,) * many)
        self.bars(set_at, ("len",), POST, LETTER, ("outer", "core", "raw"), ())
        self.bars(set_at, ("outer", "size"), POST, LETTER, ("outer", "core", "raw"), (0,) * 40)

    def test_the_inner_bar_goes_first(self):
        # Of 39 bytes the outer tag alone is beyond its bounds, of more the inner one is, too.
        self.sets(POST, LETTER, ("outer", "core", "raw"), (0,) * 37, post(DATA, core=(0,) * 37))
        self.bars(set_at, ("len",), POST, LETTER, ("outer", "core", "raw"), (0,) * 39)
        for many in (40, 41, 42, 43):
            self.bars(set_at, ("outer", "size"), POST, LETTER, ("outer", "core", "raw"), (0,) * many)

    def test_a_room_of_a_fixed_size(self):
        grammar = (("top", (("carried", "k", ("is", 4), "mid"), BYTE)),
                   ("mid", (("number", "m", 1, "big", 0, 3), ("bytes", "b", ("of", "m", 1, 0)), ("text", "t", 0))))
        some = (1, 7, 8, 0, 5)
        self.sets(grammar, some, ("k", "t"), (9,), (1, 7, 9, 0, 5))
        self.sets(grammar, some, ("n",), 6, (1, 7, 8, 0, 6))
        self.bars(set_at, ("k",), grammar, some, ("k", "t"), ())
        self.bars(set_at, ("k",), grammar, some, ("k", "t"), (8, 8))
        self.bars(set_at, ("k",), grammar, some, ("k", "b"), (1, 2))
        self.bars(set_at, ("k",), grammar, some, ("k", "b"), ())
        self.bars(set_at, ("k", "m"), grammar, some, ("k", "b"), (1, 2, 3, 4))

    def test_a_room_of_a_fixed_size_in_a_room_of_a_tag(self):
        grammar = (("top", (BYTE, ("carried", "k", ("of", "n", 1, 0), "mid"))),
                   ("mid", (("carried", "l", ("is", 2), "low"),)), ("low", (("text", "t", 0),)))
        self.sets(grammar, (2, 7, 0), ("k", "l", "t"), (8,), (2, 8, 0))
        self.bars(set_at, ("k", "l"), grammar, (2, 7, 0), ("k", "l", "t"), (8,) * 20)

    def test_a_tag_on_which_two_lengths_hang(self):
        grammar = (("top", (BYTE, ("bytes", "b", ("of", "n", 1, 0)), ("bytes", "c", ("of", "n", 2, -1)))),)
        some = (2, 7, 8, 1, 2, 3)
        self.sets(grammar, some, ("b",), (0, 9), (2, 0, 9, 1, 2, 3))
        self.bars(set_at, ("n",), grammar, some, ("b",), (1,))
        self.bars(set_at, ("n",), grammar, some, ("c",), (1, 2, 3, 4, 5))
        self.bars(set_at, ("n",), grammar, some, ("c",), (1, 2, 3, 4))
        self.bars(set_at, ("n",), grammar, some, ("n",), 3)

    def test_a_tag_of_a_length_and_a_choice(self):
        grammar = (("top", (BYTE, ("bytes", "b", ("of", "n", 1, 0)), ("choice", "c", "n", ((1, "one"), (2, "one"))))), ONE)
        self.sets(grammar, (1, 7, 8), ("b",), (6,), (1, 6, 8))
        self.bars(set_at, ("n",), grammar, (1, 7, 8), ("b",), (6, 6))
        self.bars(set_at, ("n",), grammar, (1, 7, 8), ("n",), 2)

    def test_a_tag_of_a_length_and_a_row(self):
        grammar = (("top", (BYTE, ("bytes", "b", ("of", "n", 1, 0)), ("row", "r", "one", ("of", "n")))), ONE)
        some = (1, 7, 8)
        self.bars(set_at, ("n",), grammar, some, ("b",), (6, 6))
        self.bars(put_in, ("n",), grammar, some, ("r",), 0, {"a": 1})
        self.bars(taken_out, ("n",), grammar, some, ("r",), 0)
        self.sets(grammar, some, ("r", 0, "a"), 255, (1, 7, 255))

    def test_a_length_of_times_and_more(self):
        grammar = (("top", (("number", "n", 1, "big", 2, 5), ("bytes", "b", ("of", "n", 3, -4)), BYTE[:1] + ("z",) + BYTE[2:])),)
        some = (2, 1, 1, 0)
        for worth in (2, 3, 4, 5):
            many = 3 * worth - 4
            self.sets(grammar, some, ("b",), (7,) * many, (worth,) + (7,) * many + (0,))
        for many in (0, 1, 3, 4, 6, 7, 12, 14):
            self.bars(set_at, ("n",), grammar, some, ("b",), (7,) * many)

    def test_the_part_is_told_by_its_own_name(self):
        grammar = (("top", (("bits", (("x", 4), ("y", 4))), ("bytes", "b", ("of", "y", 1, 0)),
                            ("bytes", "c", ("of", "x", 1, 0)))),)
        some = (0x12, 7, 8, 9)
        self.sets(grammar, some, ("b",), (), (0x10, 9))
        self.sets(grammar, some, ("c",), (4, 5, 6), (0x32, 7, 8, 4, 5, 6))
        self.bars(set_at, ("y",), grammar, some, ("b",), (0,) * 16)
        self.bars(set_at, ("x",), grammar, some, ("c",), (0,) * 16)
        self.bars(set_at, ("y",), grammar, some, ("y",), 1)

    def test_the_own_worth_goes_ahead_of_what_hangs_on_it(self):
        self.bars(set_at, ("body", "list", 1, "val"), POST, LETTER, ("body", "list", 1, "val"), (0,) * 8 + (256,))


class Refused(Cases):
    def test_no_letter(self):
        for some in BAD_LETTERS:
            for call, rest in ((set_at, (("tail",), ())), (set_at, ((), None)), (put_in, (("body", "list"), 0, {})),
                               (put_in, ("x", -1, None)), (taken_out, (("body", "list"), 0)), (taken_out, (None, None))):
                with self.assertRaises(NoLetter) as caught:
                    call(POST, some, *rest)
                self.assertIsNone(caught.exception.number)

    def test_no_letter_with_bytes_left_in_a_room(self):
        grammar = (("top", (BYTE, ("carried", "k", ("is", 2), "one"))), ONE)
        with self.assertRaises(NoLetter):
            set_at(grammar, (1, 2, 3), ("n",), 2)

    def test_no_path(self):
        for path in NO_PATHS:
            for worth in (0, None, ()):
                with self.assertRaises(NoPath) as caught:
                    set_at(POST, LETTER, path, worth)
                self.assertIs(caught.exception.path, path)

    def test_no_path_of_a_row(self):
        for path in NO_PATHS + (("len",), ("ver",), ("tail",), ("body", "note"), ("body", "many"),
                                ("body", "list", 0, "val"), ("outer", "core", "raw")):
            if path == ("body", "list"):
                continue
            for call, rest in ((put_in, (0, {"key": 3, "val": ()})), (put_in, (-1, None)), (taken_out, (0,)),
                               (taken_out, (None,))):
                with self.assertRaises(NoPath) as caught:
                    call(POST, LETTER, path, *rest)
                self.assertIs(caught.exception.path, path)


class Rows(Cases):
    pair = {"key": 5, "val": (1, 2)}

    def test_put_in_at_each_number(self):
        pieces = ((4, 99), (3,))
        for number in (0, 1, 2):
            told = put_in(POST, LETTER, ("body", "list"), number, self.pair)
            inner = pieces[:number] + ((5, 1, 2),) + pieces[number:]
            self.assertEqual(told, post((3,) + sum(inner, ()) + (104, 105, 10)))
            self.good(POST, told)
            self.assertEqual(taken_out(POST, told, ("body", "list"), number), LETTER)

    def test_taken_out_at_each_number(self):
        self.assertEqual(taken_out(POST, LETTER, ("body", "list"), 0), post((1, 3, 104, 105, 10)))
        self.assertEqual(taken_out(POST, LETTER, ("body", "list"), 1), post((1, 4, 99, 104, 105, 10)))
        none = taken_out(POST, taken_out(POST, LETTER, ("body", "list"), 1), ("body", "list"), 0)
        self.assertEqual(none, post((0, 104, 105, 10)))
        self.assertEqual(put_in(POST, none, ("body", "list"), 0, self.pair), post((1, 5, 1, 2, 104, 105, 10)))
        for number in (0, -1, 1):
            with self.assertRaises(NoNumber):
                taken_out(POST, none, ("body", "list"), number)

    def test_no_number(self):
        for number in (-1, 3, 4, True, False, None, "0", (0,), [0], {}, 2 ** 70):
            for thing in (self.pair, None, {}):
                with self.assertRaises(NoNumber):
                    put_in(POST, LETTER, ("body", "list"), number, thing)
        for number in (-1, -2, 2, 3, True, False, None, "0", (0,), [0], {}):
            with self.assertRaises(NoNumber):
                taken_out(POST, LETTER, ("body", "list"), number)

    def test_no_worth_by_its_path_within_the_thing(self):
        full = put_in(POST, LETTER, ("body", "list"), 0, self.pair)
        for letter in (LETTER, full):
            for thing, path in (({}, ("key",)), ({"key": 2, "val": ()}, ("key",)), ({"key": 4, "val": ()}, ("val",)),
                                ({"key": 3}, ("val",)), ({"val": ()}, ("key",)), (None, ()), ([], ()),
                                (("pair", self.pair), ())):
                with self.assertRaises(NoWorth) as caught:
                    put_in(POST, letter, ("body", "list"), 2, thing)
                self.assertEqual(caught.exception.path, path)

    def test_more_than_the_tag_may_be(self):
        full = put_in(POST, LETTER, ("body", "list"), 0, self.pair)
        self.bars(put_in, ("body", "many"), POST, full, ("body", "list"), 3, self.pair)
        grammar = (("top", (("number", "n", 1, "big", 1, 2), ("row", "r", "one", ("of", "n")))), ONE)
        self.bars(taken_out, ("n",), grammar, (1, 7), ("r",), 0)
        self.assertEqual(put_in(grammar, (1, 7), ("r",), 0, {"a": 6}), (2, 6, 7))
        self.bars(put_in, ("n",), grammar, (2, 6, 7), ("r",), 0, {"a": 5})

    def test_rows_to_the_rest_in_rooms(self):
        grammar = (("top", (BYTE, ("carried", "k", ("of", "n", 1, 0), "rows"), ("sum", "s", "placed"))),
                   ("rows", (("row", "r", "one", ("rest",)), ("sum", "s", "plain"))), ONE)
        some = summed("placed", (3, 4, 5, 9))
        told = put_in(grammar, some, ("k", "r"), 1, {"a": 7})
        self.assertEqual(told, summed("placed", (4, 4, 7, 5, 16)))
        self.assertEqual(taken_out(grammar, told, ("k", "r"), 1), some)
        told = taken_out(grammar, taken_out(grammar, some, ("k", "r"), 0), ("k", "r"), 0)
        self.assertEqual(told, summed("placed", (1, 0)))
        for _ in range(8):
            told = put_in(grammar, told, ("k", "r"), 0, {"a": 1})
        self.bars(put_in, ("n",), grammar, told, ("k", "r"), 0, {"a": 1})

    def test_a_row_in_a_room_of_a_fixed_size(self):
        grammar = (("top", (("carried", "k", ("is", 2), "rows"),)), ("rows", (("row", "r", "one", ("rest",)),)), ONE)
        self.bars(put_in, ("k",), grammar, (1, 2), ("k", "r"), 0, {"a": 1})
        self.bars(taken_out, ("k",), grammar, (1, 2), ("k", "r"), 1)

    def test_rows_within_rows(self):
        grammar = (("top", (("row", "r", "list", ("rest",)),)), ("list", (BYTE, ("row", "i", "one", ("of", "n")))), ONE)
        some = (2, 8, 9, 0)
        self.assertEqual(put_in(grammar, some, ("r", 1, "i"), 0, {"a": 5}), (2, 8, 9, 1, 5))
        self.assertEqual(taken_out(grammar, some, ("r", 0, "i"), 0), (1, 9, 0))
        self.assertEqual(put_in(grammar, some, ("r",), 1, {"n": 1, "i": [{"a": 3}]}), (2, 8, 9, 1, 3, 0))
        self.assertEqual(taken_out(grammar, some, ("r",), 0), (0,))
        with self.assertRaises(NoWorth) as caught:
            put_in(grammar, some, ("r",), 1, {"n": 2, "i": [{"a": 3}, {"a": 300}]})
        self.assertEqual(caught.exception.path, ("i", 1, "a"))

    def test_a_things_sum_may_be_told_or_left_out(self):
        grammar = (("top", (("row", "r", "item", ("rest",)),)), ("item", (BYTE, ("sum", "s", "placed"))))
        self.assertEqual(put_in(grammar, (), ("r",), 0, {"n": 3}), (3, 0, 3))
        self.assertEqual(put_in(grammar, (), ("r",), 0, {"n": 3, "s": 3}), (3, 0, 3))
        with self.assertRaises(NoWorth) as caught:
            put_in(grammar, (), ("r",), 0, {"n": 3, "s": 4})
        self.assertEqual(caught.exception.path, ("s",))


class HandedIn(unittest.TestCase):
    def test_by_names(self):
        self.assertEqual(set_at(grammar=POST, some=LETTER, path=("tail",), worth=()), post(DATA, tail=()))
        told = put_in(grammar=POST, some=LETTER, path=("body", "list"), number=0, fields={"key": 3, "val": ()})
        self.assertEqual(taken_out(grammar=POST, some=told, path=("body", "list"), number=0), LETTER)

    def test_fields_stay(self):
        thing = {"key": 5, "val": (1, 2), "more": [1]}
        before = copy.deepcopy(thing)
        put_in(POST, LETTER, ("body", "list"), 0, thing)
        self.assertEqual(thing, before)

    def test_stands_in_its_file(self):
        for name in ("set_at", "put_in", "taken_out"):
            self.assertEqual(getattr(changing, name).__module__, "letterbench.changing")

    def test_written_tells_the_same(self):
        tree = fields()
        tree["tail"] = (1,)
        del tree["check"]
        self.assertEqual(set_at(POST, LETTER, ("tail",), (1,)), written(POST, tree))


if __name__ == "__main__":
    unittest.main()
