"""Promise 18: carryings, the pieces that letters carry, and upper letters that lie one behind the other in a stream."""

import copy
import random
import unittest

from lettermaker import draw_bytes, draw_letter
from test_losses import drawn
from letterbench import upper
from letterbench.errors import NoGrammar, NoSetting
from letterbench.grammars import look_at_grammar
from letterbench.reading import spreads_of
from letterbench.streams import together
from letterbench.upper import is_carrying, pieces_of, upper_of

# A letter carries at once, in the choice's two kinds, and in a room that one of these has.
LOWER = (
    ("top", (
        ("bits", (("sort", 3), ("fin", 1), ("spare", 4))),
        ("number", "off", 2, "big", 0, 900),
        ("number", "many", 1, "big", 0, 200),
        ("bytes", "data", ("of", "many", 1, 0)),
        ("choice", "way", "sort", ((1, "one"), (2, "two"), (3, "none"))),
        ("sum", "check", "plain"),
    )),
    ("one", (("number", "at", 1, "big", 0, 255), ("number", "end", 1, "big", 0, 9), ("bytes", "body", ("is", 2)))),
    ("two", (("number", "at", 2, "small", 0, 500), ("number", "len", 1, "big", 0, 40), ("carried", "room", ("of", "len", 1, 0), "deep"),
             ("text", "body", 0), ("bits", (("x", 1), ("end", 7))))),
    ("deep", (("number", "at", 1, "big", 5, 255), ("bytes", "body", ("rest",)), ("sum", "own", "plain"))),
    ("none", (("number", "n", 1, "big", 0, 9), ("row", "room", "one", ("of", "n")))),
)


def top(behind, *, sort=1, fin=0, off=0, data=(), summed=True):
    """A letter with this behind the data."""
    some = (sort << 5 | fin << 4, off >> 8, off & 255, len(data)) + data + behind
    return some + ((sum(some) % 256,) if summed else ())


class Carryings(unittest.TestCase):
    def so(self, *carrying):
        self.assertIs(is_carrying(LOWER, carrying), True, carrying)

    def not_so(self, *carrying):
        self.assertIs(is_carrying(LOWER, carrying), False, carrying)

    def test_the_grammar_is_one(self):
        self.assertIsNone(look_at_grammar(LOWER))

    def test_at_once(self):
        for last in (None, "fin", "sort", "spare", "off", "many"):
            self.so((), "off", "data", last)
            self.so((), "many", "data", last)
        for last in ("data", "way", "check", "none", "at"):
            self.not_so((), "off", "data", last)
        for place in ("sort", "fin", "data", "way", "check", "at", "none"):
            self.not_so((), place, "data", None)
        for body in ("off", "fin", "way", "check", "body", "none"):
            self.not_so((), "off", body, None)

    def test_through_a_choice(self):
        for last in (None, "end", "at"):
            self.so(("way",), "at", "body", last)
        self.not_so(("way",), "at", "body", "fin")
        self.not_so(("way",), "off", "data", None)
        self.not_so(("way",), "at", "room", None)

    def test_each_in_another_kind_than_the_others(self):
        self.not_so(("way",), "at", "body", "len")
        self.not_so(("way",), "len", "body", None)
        self.not_so(("way",), "at", "body", "x")
        self.so(("way",), "end", "body", "at")

    def test_through_a_carried_room(self):
        for last in (None, "at"):
            self.so(("way", "room"), "at", "body", last)
        self.not_so(("way", "room"), "at", "body", "own")
        self.not_so(("way", "room"), "at", "own", None)
        self.not_so(("room",), "at", "body", None)

    def test_paths(self):
        for path in (("data",), ("off",), ("sort",), ("check",), ("none",), ("way", "way"), ("way", "at"), ("way", "room", "room"),
                     ("way", "room", "body"), ("way", "room", "room", "room"), ("off", "way")):
            self.not_so(path, "at", "body", None)
        self.not_so(("way", "room"), "end", "body", None)

    def test_three_names_at_most(self):
        names = ("a", "b", "c", "d")
        for many in range(5):
            kinds = tuple(names[at] for at in range(many)) + ("z",)
            grammar = tuple((kind, (("number", "n", 1, "big", 0, 9), ("bytes", "y", ("is", 1)), ("carried", "c", ("is", 9), inner)))
                            for kind, inner in zip(kinds, kinds[1:]))
            grammar += (("z", (("number", "m", 1, "big", 0, 9), ("bytes", "y", ("is", 1)))),)
            look_at_grammar(grammar)
            self.assertIs(is_carrying(grammar, (("c",) * many, "m", "y", None)), many <= 3)

    def test_rows_lead_nowhere(self):
        grammar = (("a", (("row", "r", "b", ("rest",)),)), ("b", (("number", "n", 1, "big", 0, 9), ("bytes", "y", ("is", 1)))))
        self.assertIs(is_carrying(grammar, (("r",), "n", "y", None)), False)

    def test_two_kinds_that_one_choice_leads_to(self):
        grammar = (("a", (("bits", (("t", 4), ("u", 4))), ("choice", "c", "t", ((0, "p"), (1, "q"))))),
                   ("p", (("number", "n", 1, "big", 0, 9), ("bytes", "y", ("is", 1)))),
                   ("q", (("number", "n", 1, "big", 0, 9), ("number", "m", 1, "big", 0, 9), ("text", "y", 0), ("choice", "d", "n", ((1, "s"),)))),
                   ("s", (("number", "n", 1, "big", 0, 9), ("bytes", "w", ("is", 1)))))
        look_at_grammar(grammar)
        for carrying, truth in (((("c",), "n", "y", None), True), ((("c",), "n", "y", "m"), False), ((("c",), "m", "y", None), False),
                                ((("c", "d"), "n", "w", "n"), True), ((("c", "d"), "n", "y", None), False)):
            self.assertIs(is_carrying(grammar, carrying), truth)

    def test_things_of_other_kinds(self):
        good = ((), "off", "data", None)
        for thing in (None, True, 5, "off", [], (), {}, list(good), good[:3], good + (None,), (None,) + good[1:], ([],) + good[1:], ("",) + good[1:],
                      ("way", "at", "body", None), ((None,), "at", "body", None), ((("way",),), "at", "body", None), ((["way"],), "at", "body", None),
                      ((5,), "at", "body", None), ((True,), "at", "body", None), object()):
            self.assertIs(is_carrying(LOWER, thing), False, thing)
        for bad in (None, True, 5, "", "Off", "of f", ("off",), ["off"], {}, b"off", "offoffoff"):
            self.not_so((), bad, "data", None)
            self.not_so((), "off", bad, None)
            if bad is not None:
                self.not_so((), "off", "data", bad)

    def test_no_grammar_ahead(self):
        for grammar in (None, (), [], LOWER[:1]):
            for call in (lambda: is_carrying(grammar, None), lambda: pieces_of(grammar, None, []), lambda: upper_of(grammar, [])):
                with self.assertRaises(NoGrammar):
                    call()


class Pieces(unittest.TestCase):
    ONCE = ((), "off", "data", "fin")
    WAY = (("way",), "at", "body", "end")
    ROOM = (("way", "room"), "at", "body", None)

    def so(self, carrying, letter, *wanted):
        self.assertEqual(pieces_of(LOWER, carrying, [letter]), [(0,) + one for one in wanted], (carrying, letter))

    def test_whole_letters(self):
        letter = top((7, 4, 50, 51), off=300, data=(8, 9), fin=1)
        self.so(self.ONCE, letter, (4, (300, (8, 9), True)))
        self.so(self.WAY, letter, (8, (7, (50, 51), True)))
        self.so((("way",), "at", "body", None), letter, (8, (7, (50, 51), False)))
        self.so(((), "many", "data", "spare"), letter, (4, (2, (8, 9), False)))

    def test_a_last_that_is_nought_or_not(self):
        for fin in (0, 1):
            for end in (0, 1, 9):
                letter = top((7, end, 50, 51), fin=fin)
                self.so(self.ONCE, letter, (4, (0, (), fin == 1)))
                self.so(self.WAY, letter, (6, (7, (50, 51), end != 0)))
        for off in (0, 5):
            self.so(((), "off", "data", "off"), top((7, 0, 50, 51), off=off), (4, (off, (), off != 0)))

    def test_cut_at_each_byte(self):
        letter = top((7, 4, 50, 51), off=300, data=(8, 9), fin=1)
        for cut in range(len(letter)):
            self.so(self.ONCE, letter[:cut], *([(4, (300, (8, 9), True))] if cut >= 6 else []))
            self.so(self.WAY, letter[:cut], *([(8, (7, (50, 51), True))] if cut >= 10 else []))
        self.so(self.ONCE, letter[:5])

    def test_a_faulty_sum_behind(self):
        letter = top((7, 4, 50, 51), data=(8, 9))
        letter = letter[:-1] + (letter[-1] ^ 1,)
        self.so(self.ONCE, letter, (4, (0, (8, 9), False)))
        self.so(self.WAY, letter, (8, (7, (50, 51), True)))

    def test_numbers_beyond_their_bounds(self):
        self.so(self.ONCE, top((7, 4, 50, 51), off=901, data=(8, 9)))
        self.so(self.WAY, top((7, 10, 50, 51), data=(8, 9)))
        self.so(self.ONCE, top((7, 10, 50, 51), data=(8, 9)), (4, (0, (8, 9), False)))

    def test_a_letter_of_another_tag(self):
        for sort in (0, 4, 7):
            self.so(self.WAY, top((7, 4, 50, 51), sort=sort))
            self.so(self.ONCE, top((7, 4, 50, 51), sort=sort), (4, (0, (), False)))
        self.so(self.WAY, top((1, 4, 0, 50, 51), sort=3))
        self.so(self.ROOM, top((1, 4, 0, 50, 51), sort=3))
        self.so(self.ROOM, top((7, 4, 50, 51), sort=1))

    def test_a_kind_in_which_they_are_of_another_sort(self):
        letter = top((7, 0, 2, 9, 9, 65, 66, 0, 3), sort=2)
        self.so(self.WAY, letter)
        self.so((("way",), "at", "body", None), letter)

    def test_a_room_carried(self):
        letter = top((7, 0, 4, 9, 60, 61, 130, 65, 0, 3), sort=2)
        self.so(self.ROOM, letter, (8, (9, (60, 61), False)))
        self.so((("way", "room"), "at", "body", "at"), letter, (8, (9, (60, 61), True)))
        faulty = top((7, 0, 4, 9, 60, 61, 131, 65, 0, 3), sort=2)
        self.so(self.ROOM, faulty, (8, (9, (60, 61), False)))
        self.so(self.ROOM, top((7, 0, 4, 4, 60, 61, 125, 65, 0, 3), sort=2))
        self.so(self.ROOM, letter[:10])
        self.so(self.ROOM, letter[:11], (8, (9, (60, 61), False)))
        self.so(self.ROOM, top((7, 0, 2, 9, 9, 65, 0, 3), sort=2), (8, (9, (), False)))
        self.so(self.ROOM, top((7, 0, 1, 9, 65, 0, 3), sort=2))
        self.so(self.ROOM, top((7, 0, 0, 65, 0, 3), sort=2))

    def test_a_body_without_bytes(self):
        letter = top((7, 4, 50, 51), off=5, data=(), fin=1)
        self.so(self.ONCE, letter, (4, (5, (), True)))
        self.so(self.ONCE, letter[:4], (4, (5, (), True)))
        self.so(self.ONCE, letter[:3])

    def test_four_hundred_and_beyond(self):
        for off, many, is_piece in ((398, 2, True), (399, 2, False), (400, 0, True), (400, 1, False), (401, 0, False), (900, 0, False),
                                    (200, 200, True), (201, 200, False), (0, 200, True)):
            data = (5,) * many
            self.so(self.ONCE, top((7, 4, 50, 51), off=off, data=data), *([(4, (off, data, False))] if is_piece else []))

    def test_several_letters(self):
        letters = [top((7, 4, 50, 51), off=3, data=(8,)), (), (1, 2), top((1, 0, 5, 6), sort=5, data=(9, 9)), top((7, 4), off=9, data=(7,))]
        ahead = copy.deepcopy(letters)
        wanted = [(0, 4, (3, (8,), False)), (3, 4, (0, (9, 9), False)), (4, 4, (9, (7,), False))]
        self.assertEqual(pieces_of(LOWER, self.ONCE, letters), wanted)
        self.assertEqual(pieces_of(grammar=LOWER, carrying=self.ONCE, letters=letters), wanted)
        self.assertEqual(letters, ahead)
        self.assertEqual(pieces_of(LOWER, self.ONCE, []), [])
        told = pieces_of(LOWER, self.ONCE, letters)
        told.clear()
        self.assertEqual(pieces_of(LOWER, self.ONCE, letters), wanted)

    def test_no_carrying(self):
        for thing in (None, (), [], ((), "off", "check", None), ((), "fin", "data", None), (("way",), "off", "data", None), 5, object()):
            with self.assertRaises(NoSetting) as caught:
                pieces_of(LOWER, thing, [top(())])
            self.assertEqual(caught.exception.part, "carrying")

    def test_pieces_by_spreads_of_drawn_letters(self):
        """What is told of drawn letters, cut and otherwise, is what their spreads tell."""
        chance = random.Random(180)
        found = 0
        for grammar, letter, _ in drawn(181, 500):
            table = dict(grammar)
            first = grammar[0][1]
            numbers = [field[1] for field in first if field[0] == "number"]
            bodies = [field[1] for field in first if field[0] == "bytes"]
            if not numbers or not bodies:
                continue
            place, body = chance.choice(numbers), chance.choice(bodies)
            parts = [(name, field[1][0][0], at) for field in first if field[0] == "bits" for at, (name, _) in enumerate(field[1])]
            last, bits, at = chance.choice(parts + [(None, None, None), (place, None, None)])
            carrying = ((), place, body, last)
            self.assertIs(is_carrying(grammar, carrying), True)
            for some in (letter, letter[:chance.randint(0, len(letter))], draw_bytes(chance, 12), tuple(byte % 4 for byte in draw_bytes(chance, 20))):
                told = {path: (begin, what, worth) for begin, _, path, what, worth in spreads_of(grammar, some)}
                wanted = []
                if told.get((place,), (0, 0))[1] == "number" and told.get((body,), (0, 0))[1] == "bytes" and (
                        bits is None or told.get((bits,), (0, 0))[1] == "bits"):
                    is_last = last is not None and (told[bits,][2][at] if bits else told[last,][2]) != 0
                    begin, _, worth = told[body,]
                    if told[place,][2] + len(worth) <= 400:
                        wanted = [(0, begin, (told[place,][2], worth, is_last))]
                self.assertEqual(pieces_of(grammar, carrying, [some]), wanted, (table, carrying, some))
                found += len(wanted)
        self.assertGreater(found, 60)


# An upper letter: a tag, then two bytes, a text, what a length tells, or all the rest.
UPPER = (
    ("msg", (("bits", (("kind", 4), ("low", 4))), ("choice", "way", "kind", ((1, "pair"), (2, "note"), (3, "long"), (4, "rest"), (5, "none"))))),
    ("pair", (("number", "a", 1, "big", 0, 9), ("number", "b", 1, "big", 0, 9))),
    ("note", (("text", "line", 0),)),
    ("long", (("number", "len", 1, "big", 0, 20), ("bytes", "body", ("of", "len", 1, 0)))),
    ("rest", (("bytes", "all", ("rest",)), ("sum", "check", "plain"))),
    ("none", (("bytes", "bare", ("is", 0)),)),
)
PAIR = (0x10, 3, 4)
NOTE = (0x20, 65, 66, 0)
LONG = (0x30, 3, 7, 7, 7)
BARE = (0x50,)


class UpperLetters(unittest.TestCase):
    def so(self, runs, wanted, left_over, end=None, grammar=UPPER):
        told = upper_of(grammar, runs, end=end)
        self.assertIsInstance(told, tuple)
        letters, left = told
        some = dict(runs).get(0, ())
        self.assertEqual(letters, [(begin, behind, spreads_of(grammar, some[begin:behind])) for begin, behind in wanted])
        self.assertEqual(left, left_over)

    def test_the_grammar_is_one(self):
        self.assertIsNone(look_at_grammar(UPPER))

    def test_nothing(self):
        for end in (None, 0, 5):
            self.so([], [], [], end)

    def test_one_behind_the_other(self):
        some = PAIR + NOTE + LONG + BARE + PAIR
        wanted = [(0, 3), (3, 7), (7, 12), (12, 13), (13, 16)]
        self.so([(0, some)], wanted, [])
        self.so([(0, some)], wanted, [], 16)
        self.so([(0, some)], wanted, [], 15)
        self.so([(0, some)], wanted, [], 400)
        for many in range(1, 5):
            end = wanted[many - 1][1]
            self.so([(0, some[:end])], wanted[:many], [])

    def test_spreads_are_of_its_own_bytes(self):
        letters, _ = upper_of(UPPER, [(0, PAIR + NOTE)])
        self.assertEqual(letters[1], (3, 7, [(0, 1, ("kind",), "bits", (2, 0)), (1, 4, ("way", "line"), "text", (65, 66))]))

    def test_cut_at_the_runs_end(self):
        some = PAIR + LONG
        for cut in range(1, len(some)):
            whole = [(0, 3)] if cut >= 3 else []
            over = 3 if cut >= 3 else 0
            left = [(over, cut)] if over < cut else []
            for end in (None, 0, cut - 1, cut + 1, 400):
                self.so([(0, some[:cut])], whole, left, end)
            self.so([(0, some[:cut])], whole + ([(over, cut)] if left else []), [], cut)

    def test_the_end_told_there(self):
        letters, left = upper_of(UPPER, [(0, PAIR + LONG[:3])], end=6)
        self.assertEqual(letters[1][2][-1], (2, 3, ("way", "body"), "lacking", "short"))
        self.assertEqual(left, [])

    def test_a_text_whose_mark_is_the_byte_more(self):
        self.so([(0, NOTE[:3])], [], [(0, 3)])
        self.so([(0, NOTE[:3])], [(0, 3)], [], 3)
        letters, _ = upper_of(UPPER, [(0, NOTE[:3])], end=3)
        self.assertEqual(letters[0][2][-1], (1, 3, ("way", "line"), "lacking", "mark"))

    def test_a_number_that_the_byte_more_would_end(self):
        self.so([(0, PAIR[:2])], [], [(0, 2)])
        self.so([(0, PAIR[:2])], [(0, 2)], [], 2)

    def test_no_kind_or_beyond_its_bounds_amid(self):
        for bad in ((0x90, 1), (0x00,), (0x10, 3, 10), (0x10, 11, 3), (0x30, 21, 0)):
            some = PAIR + bad + NOTE
            self.so([(0, some)], [(0, 3)], [(3, len(some))])
            self.so([(0, some)], [(0, 3)], [(3, len(some))], len(some) + 1)
            self.so([(0, some)], [(0, 3), (3, len(some))], [], len(some))

    def test_a_kind_that_goes_to_the_rest(self):
        some = PAIR + (0x40, 1, 2, 0x43)
        self.so([(0, some)], [(0, 3)], [(3, 7)])
        self.so([(0, some)], [(0, 3), (3, 7)], [], 7)
        self.so([(0, some[:6])], [(0, 3), (3, 6)], [], 6)
        self.so([(0, (0x40,))], [], [(0, 1)])
        self.so([(0, (0x40,))], [(0, 1)], [], 1)

    def test_letters_of_no_bytes(self):
        grammar = (("msg", (("bytes", "bare", ("is", 0)),)),)
        for end in (None, 2, 3):
            self.so([(0, (1, 2))], [], [(0, 2)], end, grammar)
        grammar = (("msg", (("bytes", "all", ("rest",)),)),)
        self.so([(0, (1, 2))], [], [(0, 2)], None, grammar)
        self.so([(0, (1, 2))], [(0, 2)], [], 2, grammar)

    def test_left_within_is_not_left_of_the_first_kind(self):
        grammar = (("msg", (("number", "n", 1, "big", 0, 9), ("carried", "room", ("of", "n", 1, 0), "in"))), ("in", (("number", "m", 1, "big", 0, 9),)))
        self.so([(0, (2, 5, 6, 1, 7))], [(0, 3), (3, 5)], [], None, grammar)
        self.so([(0, (2, 5, 6, 2, 7))], [(0, 3)], [(3, 5)], None, grammar)
        grammar = (("msg", (("carried", "room", ("rest",), "in"),)), ("in", (("number", "m", 1, "big", 0, 9),)))
        self.so([(0, (2, 5))], [], [(0, 2)], None, grammar)
        self.so([(0, (2, 5))], [(0, 2)], [], 2, grammar)

    def test_an_inner_fault_behind_which_the_letter_goes_on(self):
        grammar = (("msg", (("carried", "room", ("is", 2), "in"), ("number", "k", 1, "big", 0, 9))), ("in", (("number", "m", 1, "big", 0, 9),)))
        self.so([(0, (77, 5, 6, 1, 1))], [(0, 3)], [(3, 5)], None, grammar)

    def test_other_runs(self):
        self.so([(0, PAIR + (0x10,)), (6, PAIR), (20, (1,))], [(0, 3)], [(3, 4), (6, 9), (20, 21)])
        self.so([(0, PAIR), (6, PAIR)], [(0, 3)], [(6, 9)], 9)
        self.so([(1, PAIR), (6, PAIR)], [], [(1, 4), (6, 9)])
        self.so([(1, PAIR)], [], [(1, 4)], 4)
        self.so([(0, PAIR[:2]), (3, PAIR)], [(0, 2)], [(3, 6)], 2)

    def test_by_names_and_told_anew(self):
        runs = [(0, PAIR + LONG[:2]), (9, (1,))]
        ahead = copy.deepcopy(runs)
        wanted = upper_of(UPPER, runs)
        self.assertEqual(upper_of(grammar=UPPER, runs=runs, end=None), wanted)
        wanted[0][0][2].clear()
        wanted[0].clear()
        wanted[1].clear()
        self.assertEqual(upper_of(UPPER, runs), ([(0, 3, spreads_of(UPPER, PAIR))], [(3, 5), (9, 10)]))
        self.assertEqual(runs, ahead)
        with self.assertRaises(TypeError):
            upper_of(UPPER, runs, 5)

    def test_drawn_letters_one_behind_the_other(self):
        chance = random.Random(182)
        seen = 0
        for grammar, _, _ in drawn(183, 150):
            letters = [draw_letter(chance, grammar) for _ in range(3)]
            letters = [letter[0] for letter in letters if letter is not None]
            if not letters or not all(spreads_of(grammar, some + (9, 9))[-1] == (len(some), len(some) + 2, (), "unknown", "left") for some in letters):
                continue
            if not all(letters) or not all(spreads_of(grammar, some + (0,))[-1][4] == "left" for some in letters):
                continue
            some = sum(letters, ())
            ends = [sum(map(len, letters[:number])) for number in range(len(letters) + 1)]
            self.so([(0, some)], list(zip(ends, ends[1:])), [], None, grammar)
            seen += 1
        self.assertGreater(seen, 20)

    def test_out_of_pieces(self):
        """Two messages in pieces of which one is lost, and then not."""
        some = PAIR + LONG
        letters = [top((0, 0, 0, 0), off=begin, data=some[begin:begin + 2], fin=begin == 6, sort=4) for begin in (6, 2, 0, 4)]
        pieces = [piece for _, _, piece in pieces_of(LOWER, ((), "off", "data", "fin"), letters)]
        told = together(pieces)
        self.so(told["runs"], [(0, 3), (3, 8)], [], told["end"])
        told = together(pieces[:3])
        self.so(told["runs"], [(0, 3)], [(3, 4), (6, 8)], told["end"])

    def test_stands_in_its_file(self):
        for name in ("is_carrying", "pieces_of", "upper_of"):
            self.assertEqual(getattr(upper, name).__module__, "letterbench.upper")


if __name__ == "__main__":
    unittest.main()
