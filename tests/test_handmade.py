"""Promises 7 and 8: letters of one grammar with each sort of field in it, whole, cut, longer and faulty."""

import unittest

from handmade import CORE, DATA, LETTER, POST, SHELL, SPREADS, fields, number_of, post, summed
from letterbench.errors import NoLetter
from letterbench.grammars import look_at_grammar
from letterbench.reading import fields_in, is_good, spreads_of


class Whole(unittest.TestCase):
    def test_the_grammar_is_one(self):
        self.assertIsNone(look_at_grammar(POST))

    def test_the_letter(self):
        self.assertEqual(spreads_of(POST, LETTER), SPREADS)
        self.assertIs(is_good(spreads_of(POST, LETTER)), True)
        self.assertEqual(fields_in(POST, LETTER), fields())
        self.assertEqual(post(DATA), LETTER)

    def test_another_way_in_small_order(self):
        for sort in (0, 5):
            letter = post((3, 1, 77, 78), sort=sort)
            told = spreads_of(POST, letter)
            self.assertEqual(told[2:4], [(3, 5, ("body", "id"), "number", 259), (5, 7, ("body", "pad"), "bytes", (77, 78))])
            self.assertIs(is_good(told), True)
            self.assertEqual(fields_in(POST, letter)["body"], ("ping", {"id": 259, "pad": (77, 78)}))

    def test_a_letter_within_a_letter_reads_as_it_does_alone(self):
        alone = spreads_of(POST, SHELL, kind="shell")
        led = [(begin + 10, end + 10, ("outer",) + path, what, worth) for begin, end, path, what, worth in alone]
        self.assertEqual(led, SPREADS[8:12])
        alone = spreads_of(POST, CORE, kind="core")
        led = [(begin + 11, end + 11, ("outer", "core") + path, what, worth) for begin, end, path, what, worth in alone]
        self.assertEqual(led, SPREADS[9:11])


class Otherwise(unittest.TestCase):
    def told(self, letter, many, *tail):
        """The first so many spreads are those of the letter, these come behind."""
        self.assertEqual(spreads_of(POST, letter), SPREADS[:many] + list(tail))

    def resummed(self, letter):
        return summed("placed", letter[:-2])

    def test_a_room_in_a_room_cut_short_and_the_outer_goes_on(self):
        letter = self.resummed(LETTER[:10] + (7,) + LETTER[11:])
        self.told(letter, 8, (10, 11, ("outer", "size"), "number", 7), (11, 17, ("outer", "core"), "lacking", "short"),
                  (17, 20, ("tail",), "bytes", (7, 8, 9)), (20, 22, ("check",), "sum", number_of(letter[-2:])))
        with self.assertRaises(NoLetter):
            fields_in(POST, letter)

    def test_bytes_left_in_a_room(self):
        letter = self.resummed(LETTER[:2] + (4,) + LETTER[3:17] + (1, 2) + LETTER[17:])
        told = spreads_of(POST, letter)
        self.assertEqual(told[12:14], [(17, 19, ("outer",), "unknown", "left"), (19, 22, ("tail",), "bytes", (7, 8, 9))])
        self.assertIs(is_good(told), True)

    def test_a_room_too_short_for_its_sum(self):
        letter = self.resummed(LETTER[:2] + (2,) + LETTER[3:])
        self.assertEqual(spreads_of(POST, letter), [SPREADS[0], (1, 3, ("len",), "number", 2)] + SPREADS[2:11] + [
            (15, 15, ("outer", "own"), "lacking", "short"), (15, 20, ("tail",), "bytes", LETTER[15:20]),
            (20, 22, ("check",), "sum", number_of(letter[-2:]))])

    def test_sums_that_are_not_so(self):
        letter = self.resummed(LETTER[:14] + (181,) + LETTER[15:])
        self.told(letter, 10, (14, 15, ("outer", "core", "plain"), "faulty", "sum"),
                  (15, 17, ("outer", "own"), "faulty", "sum"), (17, 20, ("tail",), "bytes", (7, 8, 9)),
                  (20, 22, ("check",), "sum", number_of(letter[-2:])))
        letter = LETTER[:20] + (LETTER[20], LETTER[21] ^ 1)
        self.told(letter, 13, (20, 22, ("check",), "faulty", "sum"))

    def test_a_number_beyond_its_bounds(self):
        letter = LETTER[:4] + (11,) + LETTER[5:]
        self.told(letter, 3, (4, 5, ("body", "list", 0, "key"), "faulty", "range"),
                  (5, 22, ("body", "list", 0), "unknown", "behind"))
        letter = LETTER[:2] + (21,) + LETTER[3:]
        self.told(letter, 1, (1, 3, ("len",), "faulty", "range"), (3, 22, (), "unknown", "behind"))

    def test_a_length_below_nought(self):
        grammar = (("top", (("number", "n", 1, "big", 0, 9), ("carried", "k", ("of", "n", 1, 0), "mid"),
                            ("number", "m", 1, "big", 0, 9))),
                   ("mid", (("number", "a", 1, "big", 0, 9), ("bytes", "b", ("of", "a", 2, -5)),
                            ("bytes", "c", ("rest",)))))
        self.assertEqual(spreads_of(grammar, (3, 2, 8, 9, 5)), [
            (0, 1, ("n",), "number", 3), (1, 2, ("k", "a"), "number", 2), (2, 2, ("k", "b"), "faulty", "length"),
            (2, 4, ("k",), "unknown", "behind"), (4, 5, ("m",), "number", 5)])

    def test_a_text_without_its_mark(self):
        letter = tuple(11 if byte == 10 else byte for byte in LETTER)
        self.told(letter, 7, (7, 22, ("body", "note"), "lacking", "mark"))

    def test_a_choice_without_a_way(self):
        letter = (0b10010101,) + LETTER[1:]
        self.assertEqual(spreads_of(POST, letter), [
            (0, 1, ("ver",), "bits", (2, 2, 5)), (1, 3, ("len",), "number", 3), (3, 22, ("body",), "unknown", "choice")])
        self.assertEqual(fields_in(POST, letter), {"ver": 2, "sort": 2, "flags": 5, "len": 3})

    def test_bytes_behind_the_letter(self):
        grammar = POST[1:2]
        self.assertEqual(spreads_of(grammar, (1, 0, 2, 3, 4, 5)), [
            (0, 2, ("id",), "number", 1), (2, 4, ("pad",), "bytes", (2, 3)), (4, 6, (), "unknown", "left")])

    def test_cut_within_each_field(self):
        for many, (begin, end, path, _, _) in enumerate(SPREADS[:8]):
            for cut in range(begin, end):
                why = "mark" if path == ("body", "note") else "short"
                self.told(LETTER[:cut], many, (begin, cut, path, "lacking", why))
        for cut in range(10, 17):
            self.told(LETTER[:cut], 8, (10, cut, ("outer",), "lacking", "short"))
        for cut in (17, 18):
            self.told(LETTER[:cut], 12, (17, cut, ("tail",), "lacking", "short"))


if __name__ == "__main__":
    unittest.main()
