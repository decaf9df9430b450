"""Promises 3, 7 and 8: letters cut at each byte, longer ones, garbage; names called otherwise."""

import random
import unittest

from lettermaker import draw_bytes, draw_grammar, draw_letter
from letterbench.errors import NoLetter
from letterbench.grammars import kinds_of, least_of, look_at_grammar
from letterbench.reading import fields_in, is_good, spreads_of
from test_reading import RICH, WHOLE, WHOLE_SPREADS

WHYS = {
    "unknown": ("choice", "left", "behind"),
    "lacking": ("short", "mark"),
    "faulty": ("range", "sum", "length"),
}


def drawn(seed, many):
    """So many grammars, each with a good letter and its fields."""
    chance = random.Random(seed)
    found = []
    while len(found) < many:
        grammar = draw_grammar(chance)
        letter = draw_letter(chance, grammar)
        if letter is not None and len(letter[0]) <= 200:
            found.append((grammar,) + letter)
    return found


class Cases(unittest.TestCase):
    def assert_spreads(self, grammar, some, told):
        """What holds of all spreads, whatever was read."""
        at = 0
        stops = 0
        for begin, end, path, what, worth in told:
            self.assertEqual(begin, at)
            self.assertGreaterEqual(end, begin)
            at = end
            if what in WHYS:
                self.assertIn(worth, WHYS[what])
                stops += what in ("lacking", "faulty")
            else:
                self.assertGreater(end + (what == "bytes"), begin)
            if worth in ("left", "behind"):
                self.assertGreater(end, begin)
        self.assertEqual(at, len(some))
        self.assertIs(is_good(told), stops == 0)
        if stops:
            with self.assertRaises(NoLetter):
                fields_in(grammar, some)
        else:
            self.assertIsInstance(fields_in(grammar, some), dict)


class CutLetters(Cases):
    def test_cut_at_each_byte(self):
        ends = {0: "size", 2: "flag", 3: "name", 6: "body data", 9: "body own", 10: "rows 0 x", 11: "rows 0 y",
                13: "rows 1 x", 14: "rows 1 y", 16: "room", 19: "tail"}
        for cut in range(21):
            begin = max(at for at in ends if at <= cut)
            path = tuple(int(name) if name.isdigit() else name for name in ends[begin].split())
            why = "mark" if path == ("name",) else "short"
            ahead = [spread for spread in WHOLE_SPREADS if spread[1] <= begin]
            self.assertEqual(spreads_of(RICH, WHOLE[:cut]), ahead + [(begin, cut, path, "lacking", why)], cut)

    def test_cut_in_what_goes_to_the_rest(self):
        ahead = [spread for spread in WHOLE_SPREADS if spread[1] <= 19]
        for cut in (21, 22):
            tail = (19, cut - 2, ("tail",), "bytes", WHOLE[19:cut - 2])
            self.assertEqual(spreads_of(RICH, WHOLE[:cut]), ahead + [tail, (cut - 2, cut, ("check",), "faulty", "sum")])

    def test_each_cut_of_many_letters(self):
        for grammar, letter, _ in drawn(1, 150):
            for cut in range(len(letter) + 1):
                some = letter[:cut]
                told = spreads_of(grammar, some)
                self.assert_spreads(grammar, some, told)
                if cut < least_of(grammar, grammar[0][0]):
                    what = [spread[3] for spread in told]
                    self.assertTrue("lacking" in what or ("unknown" in what) or ("faulty" in what), (grammar, some))


class GoodLetters(Cases):
    def test_fields_are_those_that_they_were_made_of(self):
        for grammar, letter, fields in drawn(2, 400):
            told = spreads_of(grammar, letter)
            self.assert_spreads(grammar, letter, told)
            self.assertEqual([spread for spread in told if spread[3] == "unknown"], [], (grammar, letter))
            self.assertEqual(fields_in(grammar, letter), fields, (grammar, letter))
            self.assertGreaterEqual(len(letter), least_of(grammar, grammar[0][0]))

    def test_longer_ones(self):
        for grammar, letter, fields in drawn(3, 200):
            if spreads_of(grammar, letter + (0,))[-1] != (len(letter), len(letter) + 1, (), "unknown", "left"):
                continue
            some = letter + (1, 2, 3)
            self.assertEqual(spreads_of(grammar, some),
                             spreads_of(grammar, letter) + [(len(letter), len(some), (), "unknown", "left")])
            self.assertEqual(fields_in(grammar, some), fields)


class Garbage(Cases):
    def test_whatever_bytes(self):
        chance = random.Random(4)
        for _ in range(600):
            grammar = draw_grammar(chance)
            for many in (0, 1, 2, 5, 30, chance.randint(0, 200)):
                some = draw_bytes(chance, many)
                if chance.random() < 0.5:
                    some = tuple(byte % 6 for byte in some)
                told = spreads_of(grammar, some)
                self.assert_spreads(grammar, some, told)
                self.assertEqual(spreads_of(grammar, some), told)

    def test_good_letters_with_one_byte_otherwise(self):
        chance = random.Random(5)
        for grammar, letter, _ in drawn(6, 200):
            if not letter:
                continue
            place = chance.randrange(len(letter))
            some = letter[:place] + (chance.randrange(256),) + letter[place + 1:]
            self.assert_spreads(grammar, some, spreads_of(grammar, some))

    def test_each_kind_of_a_grammar(self):
        chance = random.Random(7)
        for _ in range(100):
            grammar = draw_grammar(chance)
            some = draw_bytes(chance, 20)
            for kind in kinds_of(grammar):
                alone = tuple(sorted(grammar, key=lambda other, first=kind: other[0] != first))
                self.assertEqual(spreads_of(grammar, some, kind=kind), spreads_of(alone, some))


class LettersWithinLetters(Cases):
    def test_read_as_they_do_alone_led_on_by_place_and_path(self):
        chance = random.Random(9)
        for grammar, letter, _ in drawn(10, 150):
            ways = (("carried", "room", ("rest",), grammar[0][0]), ("carried", "room", ("of", "n", 1, 0), grammar[0][0]))
            for some in (letter, letter[:chance.randint(0, len(letter))], letter + (7,), draw_bytes(chance, 9)):
                alone = [(begin + 1, end + 1, ("room",) + path, what, worth)
                         for begin, end, path, what, worth in spreads_of(grammar, some)]
                for way in ways:
                    around = (("around", (("number", "n", 1, "big", 0, 255), way)),) + grammar
                    self.assertIsNone(look_at_grammar(around))
                    told = spreads_of(around, (len(some),) + some)
                    self.assertEqual(told, [(0, 1, ("n",), "number", len(some))] + alone)
                around = (("around", (("number", "n", 1, "big", 0, 255), ways[1], ("text", "t", 0))),) + grammar
                end = len(some) + 1
                self.assertEqual(spreads_of(around, (len(some),) + some + (5, 0)), [
                    (0, 1, ("n",), "number", len(some))] + alone + [(end, end + 2, ("t",), "text", (5,))])


def called(name):
    return "q" + name


def field_called(field):
    if field[0] == "bits":
        return ("bits", tuple((called(name), width) for name, width in field[1]))
    rest = list(field[2:])
    for place, thing in enumerate(rest):
        if isinstance(thing, tuple) and thing and thing[0] == "of":
            rest[place] = ("of", called(thing[1])) + thing[2:]
    if field[0] == "choice":
        rest = [called(field[2]), tuple((worth, called(kind)) for worth, kind in field[3])]
    if field[0] == "row":
        rest[0] = called(field[2])
    if field[0] == "carried":
        rest[1] = called(field[3])
    return (field[0], called(field[1])) + tuple(rest)


def fields_called(fields):
    if isinstance(fields, dict):
        return {called(name): fields_called(worth) for name, worth in fields.items()}
    if isinstance(fields, list):
        return [fields_called(thing) for thing in fields]
    if isinstance(fields, tuple) and len(fields) == 2 and isinstance(fields[0], str):
        return (called(fields[0]), fields_called(fields[1]))
    return fields


class NamesCalledOtherwise(unittest.TestCase):
    def test_tell_the_same_so_called(self):
        for grammar, letter, fields in drawn(8, 150):
            other = tuple((called(name), tuple(map(field_called, inner))) for name, inner in grammar)
            self.assertIsNone(look_at_grammar(other))
            self.assertEqual(fields_in(other, letter), fields_called(fields))
            for some in (letter, letter[:-1], letter + (9,), (1, 2, 3)):
                expected = [
                    (begin, end, tuple(called(step) if isinstance(step, str) else step for step in path), what, worth)
                    for begin, end, path, what, worth in spreads_of(grammar, some)
                ]
                self.assertEqual(spreads_of(other, some), expected)


if __name__ == "__main__":
    unittest.main()
