"""Promises 25a and 3 (h): two makes compared, closed tables of pairs, letters that part."""

import itertools
import random
import unittest

from test_losses import called
from test_makes import COUNTER, draw_make, draw_row
from letterbench import pairs
from letterbench.errors import NoMake
from letterbench.makes import answers, stands_of, step_of
from letterbench.pairs import compared_makes, lets_pairs, parts_them

# The same, with the place where it is busy twice over.
TWICE = (("idle", "busy", "still"), (
    ("idle", "ask", ("box", "less", 3), ("yes", "box"), "next", "idle"),
    ("idle", "ask", ("heard", "less", 50), ("no", "heard"), 0, "busy"),
    ("idle", "ask", None, ("no", "heard"), 0, "still"),
    ("busy", "ask", ("heard", "same", 7), ("no", 9), None, "still"),
    ("still", "ask", ("heard", "same", 7), ("no", 9), None, "busy"),
    ("busy", "rest", ("heard", "more", 250), None, 2, "idle"),
    ("busy", "rest", ("heard", "less", 5), ("ok", 0), "next", "idle"),
    ("still", "rest", ("heard", "less", 5), ("ok", 0), "next", "idle"),
    ("still", "rest", ("heard", "more", 250), None, 2, "idle"),
))
FIRST = (("idle", 0), ("idle", 0))
TABLE = [(("busy", 0), ("busy", 0)), (("busy", 0), ("still", 0))] + [(("idle", box), ("idle", box)) for box in range(4)]


def row_otherwise(make, number, *row):
    return (make[0], make[1][:number] + (row,) + make[1][number + 1:])


class Alike(unittest.TestCase):
    def test_beside_itself(self):
        self.assertEqual(compared_makes(COUNTER, COUNTER), ("alike", [(stand, stand) for stand in stands_of(COUNTER)]))
        bare = (("b", "a"), ())
        self.assertEqual(compared_makes(bare, (("z",), ())), ("alike", [(("b", 0), ("z", 0))]))

    def test_beside_one_with_a_place_twice_over(self):
        self.assertEqual(compared_makes(COUNTER, TWICE), ("alike", sorted(TABLE)))
        self.assertEqual(compared_makes(TWICE, COUNTER), ("alike", sorted((other, one) for one, other in TABLE)))
        self.assertEqual(compared_makes(one=COUNTER, other=TWICE)[0], "alike")

    def test_unlike_boxes_that_nothing_tells(self):
        one = (("a",), (("a", "x", None, ("y", 1), "next", "a"),))
        other = (("b",), (("b", "x", None, ("y", 1), None, "b"),))
        self.assertEqual(compared_makes(one, other), ("alike", [(("a", box), ("b", 0)) for box in range(4)]))

    def test_rows_that_change_nothing(self):
        more = (COUNTER[0], COUNTER[1] + (("busy", "other", ("heard", "less", 0), None, None, "idle"), ("idle", "ask", None, ("no", 1), 1, "busy")))
        self.assertEqual(compared_makes(COUNTER, more)[0], "alike")


class Parted(unittest.TestCase):
    def so(self, one, other, *letters):
        self.assertEqual(compared_makes(one, other), ("parted", list(letters)))
        self.assertEqual(compared_makes(other, one), ("parted", list(letters)))
        self.assertIs(parts_them(one, other, list(letters)), True)
        self.assertIs(parts_them(other, one, list(letters)), True)

    def test_one_row_put_otherwise(self):
        self.so(COUNTER, row_otherwise(COUNTER, 0, "idle", "ask", ("box", "less", 2), ("yes", "box"), "next", "idle"), *[("ask", 0)] * 3)
        self.so(COUNTER, row_otherwise(COUNTER, 1, "idle", "ask", None, ("no", "heard"), 1, "busy"),
                *[("ask", 0)] * 4, ("rest", 0), ("ask", 0))
        self.so(COUNTER, row_otherwise(COUNTER, 1, "idle", "ask", None, ("no", 5), 0, "busy"), *[("ask", 0)] * 4)
        self.so(COUNTER, row_otherwise(COUNTER, 1, "idle", "ask", None, ("no", 0), 0, "busy"), *[("ask", 0)] * 3, ("ask", 1))
        self.so(COUNTER, row_otherwise(COUNTER, 2, "busy", "ask", ("heard", "same", 8), ("no", 9), None, "busy"), *[("ask", 0)] * 4, ("ask", 7))
        self.so(COUNTER, row_otherwise(COUNTER, 3, "busy", "rest", ("heard", "more", 251), None, 2, "idle"), *[("ask", 0)] * 4, ("rest", 251))

    def test_the_first_of_several(self):
        one = (("a",), (("a", "y", ("heard", "more", 9), ("z", 1), None, "a"), ("a", "x", ("heard", "more", 99), ("z", 1), None, "a")))
        self.so(one, (("a",), ()), ("x", 100))
        self.so(one, (("a",), one[1][1:]), ("y", 10))
        self.so(one, (("a",), one[1][:1]), ("x", 100))

    def test_fewest_letters_go_first(self):
        one = (("a", "b"), (("a", "x", None, None, None, "b"), ("b", "x", None, ("z", 1), None, "b"), ("a", "y", ("heard", "same", 200), ("z", 1), None, "a")))
        self.so(one, (one[0], one[1][:1]), ("y", 200))
        self.so(one, (one[0], one[1][:1] + one[1][2:]), ("x", 0), ("x", 0))

    def test_no_answer_is_not_deaf(self):
        self.so((("a",), (("a", "x", None, None, None, "a"),)), (("a",), ()), ("x", 0))

    def test_what_is_heard_and_the_box_and_a_number(self):
        def make(number):
            return (("a",), (("a", "x", None, ("y", number), None, "a"),))

        self.so(make("heard"), make("box"), ("x", 1))
        self.so(make("heard"), make(0), ("x", 1))
        self.so(make("heard"), make(255), ("x", 0))
        self.so(make(3), make(4), ("x", 0))
        self.assertEqual(compared_makes(make("box"), make(0))[0], "alike")
        box = (("a",), (("a", "w", None, None, 3, "a"), ("a", "x", None, ("y", "box"), None, "a")))
        heard = (("a",), (("a", "w", None, None, 3, "a"), ("a", "x", ("heard", "more", 2), ("y", "heard"), None, "a"), ("a", "x", None, ("y", "box"), None, "a")))
        self.so(box, heard, ("x", 3))

    def test_a_number_that_is_just_the_first_one_of_those_that_may_be_heard(self):
        def make(answer):
            return (("a", "b"), (("a", "w", None, None, 3, "b"), ("b", "x", ("heard", "more", 9), ("y", answer), None, "b"),
                                 ("b", "z", ("heard", "more", 2), ("y", answer if answer != 10 else 3), None, "b")))

        self.so(make("heard"), make(10), ("w", 0), ("x", 11))
        self.so(make("heard"), make("box"), ("w", 0), ("x", 10))
        self.so((make("heard")[0], make("heard")[1][::2]), (make("box")[0], make("box")[1][::2]), ("w", 0), ("z", 4))
        self.so(make(254), (make(254)[0], make(254)[1] + (("a", "x", ("heard", "more", 254), ("y", 1), None, "a"),)), ("x", 255))

    def test_told_anew(self):
        told = compared_makes(COUNTER, TWICE)
        told[1].clear()
        self.assertEqual(compared_makes(COUNTER, TWICE), ("alike", sorted(TABLE)))


class Tables(unittest.TestCase):
    def so(self, truth, thing, one=COUNTER, other=TWICE):
        self.assertIs(lets_pairs(one, other, thing), truth, thing)

    def test_the_table(self):
        self.so(True, TABLE)
        self.so(True, TABLE[::-1])
        self.assertIs(lets_pairs(one=COUNTER, other=TWICE, thing=TABLE), True)
        self.so(True, [(stand, stand) for stand in stands_of(COUNTER)], COUNTER, COUNTER)

    def test_a_pair_left_out_or_twice(self):
        for at in range(len(TABLE)):
            self.so(False, TABLE[:at] + TABLE[at + 1:])
            self.so(False, TABLE + TABLE[at:at + 1])
        self.so(False, [])
        self.so(False, [FIRST])

    def test_pairs_put_in(self):
        self.so(True, TABLE + [(("busy", 3), ("still", 3)), (("busy", 3), ("busy", 3))])
        self.so(False, TABLE + [(("busy", 3), ("still", 3))])
        self.so(False, TABLE + [(("idle", 1), ("idle", 2))])
        self.so(False, TABLE + [(("busy", 1), ("idle", 1))])
        more = TABLE + [(("busy", 1), ("busy", 1)), (("busy", 1), ("still", 1))]
        self.so(True, more)

    def test_exchanged(self):
        self.so(False, [(other, one) for one, other in TABLE])
        self.so(True, [(other, one) for one, other in TABLE], TWICE, COUNTER)

    def test_without_the_first(self):
        bare = (("a", "b"), ())
        self.so(False, [(("b", 0), ("b", 0))], bare, bare)
        self.so(False, [(("a", 0), ("b", 0))], bare, bare)
        self.so(True, [(("a", 0), ("a", 0))], bare, bare)
        self.so(True, [(("b", 3), ("a", 2)), (("a", 0), ("a", 0))], bare, bare)

    def test_makes_that_are_parted(self):
        other = row_otherwise(COUNTER, 1, "idle", "ask", None, ("no", "heard"), 1, "busy")
        everything = list(itertools.product(itertools.product(COUNTER[0], range(4)), repeat=2))
        self.so(False, everything, COUNTER, other)
        self.so(False, everything, COUNTER, COUNTER)
        self.so(False, [FIRST], COUNTER, other)

    def test_true_is_no_one(self):
        for at, (one, other) in enumerate(TABLE):
            for truth in (True, False):
                if one[1] == truth:
                    self.so(False, TABLE[:at] + [((one[0], truth), other)] + TABLE[at + 1:])
                    self.so(False, TABLE[:at] + [(one, (other[0], truth))] + TABLE[at + 1:])

    def test_things_of_other_kinds(self):
        stand = ("idle", 0)
        for thing in (None, True, 5, "pairs", tuple(TABLE), {}, {FIRST: 0}, set(TABLE), {pair: True for pair in TABLE}):
            self.so(False, thing)
        for pair in (None, True, 5, "pair", (), (stand,), (stand, stand, stand), [stand, stand], (stand, None), (None, stand), (stand, ["idle", 0]),
                     (stand, ("idle",)), (stand, ("idle", 0, 0)), (stand, ("idle", 4)), (stand, ("idle", -1)), (stand, ("idle", "0")), (stand, ("gone", 0)),
                     (stand, (["idle"], 0)), (stand, (None, 0)), (("still", 0), stand), (({}, 0), stand), ((stand, stand), stand)):
            self.so(False, TABLE + [pair])
            self.so(False, [pair] + TABLE)


class Parting(unittest.TestCase):
    OTHER = row_otherwise(COUNTER, 2, "busy", "ask", ("heard", "same", 8), ("no", 9), None, "busy")
    WAY = [("ask", 5)] * 4

    def so(self, truth, thing):
        self.assertIs(parts_them(COUNTER, self.OTHER, thing), truth, thing)
        self.assertIs(parts_them(self.OTHER, COUNTER, thing), truth, thing)

    def test_at_the_last_one_alone(self):
        self.so(True, self.WAY + [("ask", 7)])
        self.so(True, self.WAY + [("ask", 8)])
        self.so(True, self.WAY + [("rest", 255), ("ask", 0), ("ask", 0), ("ask", 7)])
        self.assertIs(parts_them(one=COUNTER, other=self.OTHER, thing=self.WAY + [("ask", 7)]), True)

    def test_at_an_earlier_one_too(self):
        self.so(False, self.WAY + [("ask", 7), ("ask", 8)])
        self.so(False, self.WAY + [("ask", 7), ("ask", 7)])

    def test_at_an_earlier_one_alone_or_not_at_all(self):
        self.so(False, self.WAY + [("ask", 7), ("ask", 9)])
        self.so(False, self.WAY)
        self.so(False, [])
        self.so(False, self.WAY + [("ask", 9)])

    def test_sorts_that_neither_has(self):
        self.so(True, [("other", 0)] + self.WAY + [("zz", 255), ("ask", 7)])
        self.so(False, self.WAY + [("ask", 7), ("other", 0)])
        self.so(False, [("other", 0)])

    def test_things_of_other_kinds(self):
        good = self.WAY + [("ask", 7)]
        for thing in (None, True, 5, "letters", tuple(good), {}, set(good), {("ask", 7): 0}):
            self.so(False, thing)
        for letter in (None, True, 5, "ask", (), ("ask",), ("ask", 7, 0), ["ask", 7], ("ask", True), ("ask", 256), ("ask", -1), ("ask", None), ("ask", "7"),
                       (None, 7), ("Ask", 7), ("", 7), ("askaskask", 7), (("ask",), 7), (["ask"], 7), (7, "ask")):
            self.so(False, [letter] + good)
            self.so(False, self.WAY + [letter])
        self.so(False, self.WAY + [("ask", 7.5)])


class Refused(unittest.TestCase):
    def test_no_makes_ahead_of_all_else(self):
        bad_row = (COUNTER[0], COUNTER[1] + (None,))
        for one, other, number in ((None, None, None), (COUNTER, None, None), (bad_row, None, 5), (None, bad_row, None), (COUNTER, bad_row, 5), (bad_row, COUNTER, 5)):
            for call in (lambda: compared_makes(one, other), lambda: lets_pairs(one, other, None), lambda: parts_them(one, other, None),
                         lambda: parts_them(one, other, []), lambda: lets_pairs(one, other, [])):
                with self.assertRaises(NoMake) as caught:
                    call()
                self.assertEqual(caught.exception.number, number)


def slow_compared(one, other):
    """Layer by layer over lists of letters, the least one kept of each pair, all numbers tried."""
    letters = [(sort, number) for sort in sorted({row[1] for row in one[1] + other[1]}) for number in range(256)]
    found = {((one[0][0], 0), (other[0][0], 0)): []}
    layer = dict(found)
    while layer:
        behind = {}
        parting = []
        for pair, way in layer.items():
            for letter in letters:
                answer, stand = step_of(one, pair[0], letter)
                other_answer, other_stand = step_of(other, pair[1], letter)
                if answer != other_answer:
                    parting.append(way + [letter])
                elif (stand, other_stand) not in found:
                    behind[stand, other_stand] = min(behind.get((stand, other_stand), way + [letter]), way + [letter])
        if parting:
            return ("parted", min(parting))
        found.update(behind)
        layer = behind
    return ("alike", sorted(found))


def draw_other(chance, make):
    """A make much like this one."""
    rows = list(make[1])
    for at, row in enumerate(rows):
        if chance.random() < 0.4:
            place = chance.randrange(6)
            rows[at] = row[:place] + (draw_row(chance, make[0])[place],) + row[place + 1:]
    if rows and chance.random() < 0.3:
        at = chance.randrange(len(rows))
        rows[at:at + 2] = rows[at:at + 2][::-1]
    return (make[0], tuple(rows))


class Drawn(unittest.TestCase):
    def test_as_by_trying_all(self):
        chance = random.Random(250)
        many = {"alike": 0, "parted": 0, "later": 0}
        for _ in range(150):
            one = draw_make(chance)
            other = draw_other(chance, one)
            told = compared_makes(one, other)
            self.assertEqual(told, slow_compared(one, other))
            many[told[0]] += 1
            if told[0] == "alike":
                self.assertIs(lets_pairs(one, other, told[1]), True)
                at = chance.randrange(len(told[1]))
                self.assertIs(lets_pairs(one, other, told[1][:at] + told[1][at + 1:]), False)
            else:
                self.assertIs(parts_them(one, other, told[1]), True)
                many["later"] += len(told[1]) > 1
        self.assertGreater(min(many.values()), 5, many)

    def test_alike_ones_answer_alike_along_drawn_letters(self):
        chance = random.Random(251)
        many = 0
        for _ in range(120):
            one = draw_make(chance)
            other = draw_other(chance, one)
            word, proof = compared_makes(one, other)
            letters = [(chance.choice("xwv"), chance.choice((0, 1, 2, 3, 5, 6, 100, 254, 255))) for _ in range(60)]
            if word == "alike":
                self.assertEqual(answers(one, letters), answers(other, letters))
                many += 1
                # The same pairs are those that letters come to.
                pair = ((one[0][0], 0), (other[0][0], 0))
                for letter in letters:
                    self.assertIn(pair, proof)
                    pair = (step_of(one, pair[0], letter)[1], step_of(other, pair[1], letter)[1])
            else:
                told = [at for at, (own, others) in enumerate(zip(answers(one, letters), answers(other, letters))) if own != others]
                if told:
                    self.assertGreaterEqual(told[0] + 1, len(proof))
                    self.assertIs(parts_them(one, other, letters[:told[0] + 1]), True)
        self.assertGreater(many, 20)

    def test_words_called_otherwise(self):
        chance = random.Random(252)
        for _ in range(60):
            couple = [draw_make(chance)]
            couple.append(draw_other(chance, couple[0]))
            named = [(tuple(map(called, places)), tuple(
                (called(begin), called(sort), wish, answer and (called(answer[0]), answer[1]), box, called(to))
                for begin, sort, wish, answer, box, to in rows)) for places, rows in couple]
            word, proof = compared_makes(*couple)
            if word == "parted":
                wanted = [(called(sort), number) for sort, number in proof]
            else:
                wanted = [((called(one[0]), one[1]), (called(other[0]), other[1])) for one, other in proof]
            self.assertEqual(compared_makes(*named), (word, wanted))


class Places(unittest.TestCase):
    def test_stand_in_their_file(self):
        for name in ("compared_makes", "lets_pairs", "parts_them"):
            self.assertEqual(getattr(pairs, name).__module__, "letterbench.pairs")


if __name__ == "__main__":
    unittest.main()
