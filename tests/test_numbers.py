"""Promises 2 and 4: words, whole numbers, bytes; numbers and sums in bytes."""

import unittest

from letterbench import numbers
from letterbench.errors import NoNumber
from letterbench.numbers import (
    bytes_of, is_bytes, is_whole, is_word, number_in, sum_by, sum_bytes, sum_size,
)

# Things of all kinds, none of which is a whole number, a word or bytes.
ODD_THINGS = [
    None, True, False, 1.0, b"", b"a", [], [1], {}, {1: 1}, {1}, frozenset(), object(), int, len,
    "A", "a b", "a1", "", (None,), ("a",), ((),), (True,), (False,), (1, [2]), range(3), 1j,
]


class Words(unittest.TestCase):
    def test_one_to_eight_small_letters(self):
        for many in range(1, 9):
            self.assertIs(is_word("abcdefgz"[:many]), True)
            self.assertIs(is_word("z" * many), True)

    def test_no_letters_and_nine(self):
        self.assertIs(is_word(""), False)
        self.assertIs(is_word("abcdefghi"), False)
        self.assertIs(is_word("a" * 9000), False)

    def test_each_letter_is_one(self):
        for letter in "abcdefghijklmnopqrstuvwxyz":
            self.assertIs(is_word(letter), True)

    def test_no_other_sign_is_one(self):
        for code in [*range(0, ord("a")), *range(ord("z") + 1, 300)]:
            self.assertIs(is_word(chr(code)), False, code)
            self.assertIs(is_word("ab" + chr(code)), False, code)
            self.assertIs(is_word(chr(code) + "ab"), False, code)

    def test_things_of_other_kinds(self):
        for thing in [*ODD_THINGS, 0, 7, (), (1, 2), ["a"], b"ab", {"a": 1}]:
            self.assertIs(is_word(thing), False, thing)


class WholeNumbers(unittest.TestCase):
    def test_ints_are(self):
        for thing in (0, 1, -1, 255, 10 ** 59, -(10 ** 59)):
            self.assertIs(is_whole(thing), True)

    def test_truths_are_none(self):
        self.assertIs(is_whole(True), False)
        self.assertIs(is_whole(False), False)

    def test_things_of_other_kinds(self):
        for thing in [*ODD_THINGS, "1", "a", (), (1,)]:
            self.assertIs(is_whole(thing), False, thing)


class Bytes(unittest.TestCase):
    def test_tuples_of_bytes_are(self):
        for thing in ((), (0,), (255,), (0, 255, 7), tuple(range(256)), (1,) * 4000):
            self.assertIs(is_bytes(thing), True)

    def test_bytes_end_at_0_and_255(self):
        for thing in ((-1,), (256,), (0, 1, 256), (0, -1, 0)):
            self.assertIs(is_bytes(thing), False)

    def test_truths_are_no_bytes(self):
        self.assertIs(is_bytes((1, True)), False)
        self.assertIs(is_bytes((False,)), False)

    def test_things_of_other_kinds(self):
        for thing in [*ODD_THINGS, 0, 5, "a", [0, 1], b"\x01"]:
            self.assertIs(is_bytes(thing), False, thing)


class NumbersInBytes(unittest.TestCase):
    def test_both_orders(self):
        self.assertEqual(bytes_of(0x01020304, 4), (1, 2, 3, 4))
        self.assertEqual(bytes_of(0x01020304, 4, order="big"), (1, 2, 3, 4))
        self.assertEqual(bytes_of(0x01020304, 4, order="small"), (4, 3, 2, 1))
        self.assertEqual(bytes_of(258, 3), (0, 1, 2))
        self.assertEqual(bytes_of(258, 3, order="small"), (2, 1, 0))
        self.assertEqual(bytes_of(9, 1), (9,))
        self.assertEqual(bytes_of(9, 1, order="small"), (9,))

    def test_both_ends_of_each_size(self):
        for size in (1, 2, 3, 4):
            for order in ("big", "small"):
                self.assertEqual(bytes_of(0, size, order=order), (0,) * size)
                self.assertEqual(bytes_of(256 ** size - 1, size, order=order), (255,) * size)
                for number in (-1, 256 ** size, 256 ** size + 5, 10 ** 59, -(10 ** 59)):
                    with self.assertRaises(NoNumber):
                        bytes_of(number, size, order=order)

    def test_no_numbers(self):
        for thing in [*ODD_THINGS, "1", (), (1,)]:
            with self.assertRaises(NoNumber):
                bytes_of(thing, 2)

    def test_number_in_bytes(self):
        self.assertEqual(number_in((1, 2, 3, 4)), 0x01020304)
        self.assertEqual(number_in((1, 2, 3, 4), order="big"), 0x01020304)
        self.assertEqual(number_in((1, 2, 3, 4), order="small"), 0x04030201)
        self.assertEqual(number_in((200,)), 200)
        self.assertEqual(number_in((200,), order="small"), 200)
        self.assertEqual(number_in((255,) * 4), 256 ** 4 - 1)

    def test_there_and_back(self):
        for size in (1, 2, 3, 4):
            for number in (0, 1, 255, 256, 65535, 65536, 16777215, 16777216, 256 ** size - 1):
                for order in ("big", "small"):
                    if number < 256 ** size:
                        some = bytes_of(number, size, order=order)
                        self.assertTrue(is_bytes(some))
                        self.assertEqual(number_in(some, order=order), number)

    def test_by_names(self):
        self.assertEqual(bytes_of(number=258, size=2, order="small"), (2, 1))
        self.assertEqual(number_in(some=(2, 1), order="small"), 258)
        self.assertEqual(sum_size(rule="plain"), 1)
        self.assertEqual(sum_by(rule="plain", some=(1, 2)), 3)
        self.assertEqual(sum_bytes(rule="placed", some=(1, 2)), (0, 5))
        self.assertIs(is_word(thing="a"), True)
        self.assertIs(is_whole(thing=1), True)
        self.assertIs(is_bytes(thing=()), True)

    def test_order_by_name_alone(self):
        with self.assertRaises(TypeError):
            bytes_of(1, 2, "big")
        with self.assertRaises(TypeError):
            number_in((1, 2), "big")


class Sums(unittest.TestCase):
    def test_of_no_bytes(self):
        self.assertEqual(sum_by("plain", ()), 0)
        self.assertEqual(sum_by("placed", ()), 0)
        self.assertEqual(sum_by("mixed", ()), 5381)
        self.assertEqual(sum_bytes("plain", ()), (0,))
        self.assertEqual(sum_bytes("placed", ()), (0, 0))
        self.assertEqual(sum_bytes("mixed", ()), (21, 5))

    def test_of_some(self):
        self.assertEqual(sum_by("plain", (1, 2, 3)), 6)
        self.assertEqual(sum_by("plain", (255, 1)), 0)
        self.assertEqual(sum_by("plain", (255, 255)), 254)
        self.assertEqual(sum_by("placed", (1, 2, 3)), 14)
        self.assertEqual(sum_by("placed", (7,)), 7)
        self.assertEqual(sum_by("mixed", (1,)), 5381 * 33 % 65536 + 1)
        self.assertEqual(sum_by("mixed", (1, 2)), (((5381 * 33 + 1) * 33) + 2) % 65536)

    def test_of_many(self):
        some = tuple([(place * 7 + 250) % 256 for place in range(4000)])
        self.assertEqual(sum_by("plain", some), sum(some) % 256)
        placed = 0
        mixed = 5381
        for place, byte in enumerate(some):
            placed += (place + 1) * byte
            mixed = mixed * 33 + byte
        self.assertGreater(placed, 65521)
        self.assertEqual(sum_by("placed", some), placed % 65521)
        self.assertEqual(sum_by("mixed", some), mixed % 65536)

    def test_placed_wraps_at_65521(self):
        self.assertEqual(sum_by("placed", (0,) * 255 + (255, 241)), (256 * 255 + 257 * 241) % 65521)
        # 257 * 254 + 243 * 1 is just 65521.
        some = [0] * 257
        some[256] = 254
        some[242] = 1
        self.assertEqual(sum_by("placed", tuple(some)), 0)
        some[0] = 1
        self.assertEqual(sum_by("placed", tuple(some)), 1)

    def test_sizes(self):
        self.assertEqual([sum_size(rule) for rule in ("plain", "placed", "mixed")], [1, 2, 2])

    def test_in_bytes_big_order(self):
        some = tuple(range(100))
        for rule in ("plain", "placed", "mixed"):
            told = sum_bytes(rule, some)
            self.assertEqual(len(told), sum_size(rule))
            self.assertEqual(told, bytes_of(sum_by(rule, some), sum_size(rule), order="big"))
        self.assertEqual(sum_bytes("placed", (0, 0, 100)), (1, 44))


class Interface(unittest.TestCase):
    def test_each_stands_in_its_file(self):
        for name in ("is_word", "is_whole", "is_bytes", "bytes_of", "number_in", "sum_size", "sum_by", "sum_bytes"):
            self.assertEqual(getattr(numbers, name).__module__, "letterbench.numbers")


if __name__ == "__main__":
    unittest.main()
