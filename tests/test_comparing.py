"""Promise 15, comparing: of two rows, of a filter and rows, of two filters just one of two is told."""

import random
import unittest

from test_compiling import GRAMMAR, LEAVES, great_grammar, joined, wide_grammars
from test_filters_drawn import choosing, draw_filter, draw_leaf, paths_of
from test_rows import draw_row
from test_trees import knots_of
from letterbench import comparing
from letterbench.comparing import beside, compared, look_at_rows
from letterbench.compiling import rows_for
from letterbench.errors import NoFilter, NoGrammar, NoRows, TooMany
from letterbench.filters import takes
from letterbench.rows import is_rows, run
from letterbench.trees import lets_tree

YES = (("end", True),)
NO = (("end", False),)
# The same grammar with shorter lengths: so many fewer ways of skipping.
SHORT = ((GRAMMAR[0][0], GRAMMAR[0][1][:1] + (("number", "len", 2, "small", 1, 9),) + GRAMMAR[0][1][2:]),) + GRAMMAR[1:]
ONE = (("letter", (("number", "n", 2, "big", 0, 65535), ("bits", (("a", 1), ("b", 7))))),)


def depth_of(tree):
    return 1 + max(len(way) for way, _ in knots_of(tree))


def near(chance, rows):
    """Bytes on which rows may well tell otherwise than on others."""
    worths = [0, 1, 2, 255] + [row[3] & 255 for row in rows if row[0] == "ask"] + [row[3] + 1 & 255 for row in rows if row[0] == "ask"]
    return tuple(chance.choice(worths + [chance.randrange(256)]) for _ in range(chance.choice((0, 1, 2, 3, 5, 9, 40, 120))))


class Cases(unittest.TestCase):
    def check(self, told, one, other):
        """What was told is so: a tree that is let by either way about, or bytes that part."""
        self.assertIsInstance(told, tuple)
        self.assertEqual(len(told), 2)
        if told[0] == "alike":
            self.assertIs(lets_tree(one, other, told[1]), True)
            self.assertIs(lets_tree(other, one, told[1]), True)
            chance = random.Random(len(one))
            for _ in range(10):
                some = near(chance, one + other)
                self.assertIs(run(one, some)[0], run(other, some)[0])
        else:
            self.assertEqual(told[0], "parted")
            self.assertIsInstance(told[1], tuple)
            self.assertLessEqual(len(told[1]), 120)
            self.assertTrue(all(type(byte) is int and 0 <= byte <= 255 for byte in told[1]))
            self.assertEqual({run(one, told[1])[0], run(other, told[1])[0]}, {True, False})
        return told[0]

    def so(self, one, other, word):
        self.assertTrue(is_rows(one) and is_rows(other))
        self.assertEqual(self.check(beside(one, other), one, other), word)
        self.assertEqual(self.check(beside(other, one), other, one), word)


class ByHand(Cases):
    def test_ends(self):
        self.so(YES, YES, "alike")
        self.so(NO, NO, "alike")
        self.so(YES, NO, "parted")
        self.assertEqual(beside(YES, YES), ("alike", ("told", True)))

    def test_a_number_asked_at_once_or_byte_by_byte(self):
        for order in ("big", "small"):
            for worth in (0x1234, 0x00ff, 0xff00, 0, 65535):
                high, low = worth >> 8, worth & 255
                one = (("take", 0, 0, 2, order, 4), ("ask", 0, "same", worth, 3), ("go", 4), ("end", True), ("end", False))
                places = (0, 1) if order == "big" else (1, 0)
                other = (("take", 0, 1, 1, "big", 6), ("take", places[1], 1, 1, "big", 6), ("take", places[0], 0, 1, "big", 6),
                         ("ask", 0, "same", high, 5), ("go", 6), ("ask", 1, "same", low, 7), ("end", False), ("end", True))
                self.so(one, other, "alike")
                bent = other[:5] + (("ask", 1, "same", low ^ 1, 7),) + other[6:]
                self.so(one, bent, "parted")

    def test_a_number_of_four_bytes(self):
        one = (("take", 0, 0, 4, "small", 5), ("ask", 0, "less", 0x01020304, 5), ("ask", 0, "more", 0x81828384, 5), ("end", True),
               ("back",), ("end", False))
        self.so(one, one, "alike")
        self.assertLessEqual(depth_of(beside(one, one)[1]), 20)
        for at, worth in ((1, 0x01020303), (1, 0x01020305), (2, 0x81828383), (2, 0x81828385)):
            bent = one[:at] + (one[at][:3] + (worth, 5),) + one[at + 1:]
            self.so(one, bent, "parted")

    def test_a_length_skipped(self):
        one = (("take", 0, 0, 1, "big", 5), ("skip", 0, 2, 1, 5), ("take", 1, 0, 1, "big", 5), ("ask", 1, "same", 9, 6), ("back",),
               ("end", False), ("end", True))
        other = (("take", 3, 0, 1, "big", 6), ("move", 1, 6), ("skip", 3, 2, 0, 6), ("take", 7, 0, 1, "small", 6), ("ask", 7, "more", 9, 6),
                 ("ask", 7, "more", 8, 7), ("end", False), ("end", True))
        self.so(one, other, "alike")
        for bent in (("skip", 3, 2, 1, 6), ("skip", 3, 1, 0, 6), ("skip", 3, 2, -1, 6), ("go", 3)):
            self.so(one, other[:2] + (bent,) + other[3:], "parted")

    def test_bits_asked_in_two_ways(self):
        one = (("part", 0, 0, 3, 2, 4), ("ask", 0, "same", 2, 3), ("go", 4), ("end", True), ("end", False))
        other = (("part", 0, 0, 4, 1, 6), ("ask", 0, "same", 0, 6), ("part", 0, 0, 3, 1, 6), ("ask", 0, "more", 0, 6), ("end", True),
                 ("back",), ("end", False))
        self.so(one, other, "alike")
        self.so(one, other[:1] + (("ask", 0, "same", 1, 6),) + other[2:], "parted")

    def test_rows_that_are_parted_by_one_letter_alone(self):
        one = (("take", 0, 116, 4, "big", 3), ("ask", 0, "same", 0x89abcdef, 4), ("back",), ("end", False), ("end", True))
        told = beside(one, NO)
        self.check(told, one, NO)
        self.assertEqual(told[1][116:], (0x89, 0xab, 0xcd, 0xef))
        self.assertEqual(len(told[1]), 120)
        self.so((("take", 0, 117, 4, "big", 3), ("ask", 0, "same", 5, 4), ("back",), ("end", False), ("end", True)), NO, "alike")

    def test_more_than_120_bytes_count_not(self):
        for more in (120, 121, 400):
            rows = (("move", more, 2), ("end", True), ("end", False))
            self.so(rows, NO, "parted" if more == 120 else "alike")

    def test_many_asks_of_one_byte(self):
        """Each worth is asked for itself: the tree is deeper than calls may be, or not, and let by."""
        asks = tuple(("ask", 0, "same", worth, 300 if worth % 3 else 301) for worth in range(256))
        one = (("take", 0, 0, 1, "big", 301),) + asks + (("back",),) * 43 + (("end", True), ("end", False))
        other = (("take", 0, 0, 1, "big", 301),) + asks[::-1] + (("back",),) * 43 + (("end", True), ("end", False))
        self.so(one, other, "alike")
        self.so(one, other[:7] + (("ask", 0, "same", asks[::-1][6][3], 300 if asks[::-1][6][4] == 301 else 301),) + other[8:], "parted")

    def test_trees_deeper_than_calls(self):
        """Two hundred asks of each of three bytes, one worth behind the other."""
        rows = []
        for place in range(3):
            rows.append(("take", 0, place, 1, "big", 599))
            rows += [("ask", 0, "same", worth, 598) for worth in range(198)]
        rows += [("end", True), ("end", False)]
        one = tuple(rows)
        self.assertEqual(len(one), 599)
        one = one[:597] + (("back",), ("end", True), ("end", False))
        told = beside(one, one)
        self.assertEqual(told[0], "alike")
        self.assertIs(lets_tree(one, one, told[1]), True)


class FiltersAndRows(Cases):
    def test_its_own_rows(self):
        for wish in LEAVES[:16]:
            rows = rows_for(SHORT, wish)
            self.assertEqual(self.check(look_at_rows(SHORT, wish, rows), rows, rows), "alike")
            self.assertEqual(look_at_rows(SHORT, ("not", wish), rows)[0], "parted")

    def test_rows_by_hand(self):
        wish = ("and", ("is", ("n",), "more", 999), ("is", ("b",), "same", 3))
        rows = (("part", 0, 2, 0, 7, 9), ("ask", 0, "less", 3, 9), ("ask", 0, "more", 3, 9), ("take", 1, 0, 1, "big", 9),
                ("ask", 1, "more", 3, 8), ("ask", 1, "less", 3, 9), ("take", 1, 1, 1, "big", 9), ("ask", 1, "less", 0xe8, 9), ("end", True),
                ("end", False))
        told = look_at_rows(ONE, wish, rows)
        self.assertEqual(self.check(told, rows_for(ONE, wish), rows), "alike")
        for at, row in ((0, ("part", 0, 2, 1, 7, 9)), (1, ("ask", 0, "less", 2, 9)), (4, ("ask", 1, "more", 4, 8)), (5, ("ask", 1, "less", 2, 9)),
                        (7, ("ask", 1, "less", 0xe7, 9)), (3, ("take", 1, 1, 1, "big", 9)), (8, ("end", False)), (9, ("end", True))):
            bent = rows[:at] + (row,) + rows[at + 1:]
            self.assertTrue(is_rows(bent))
            told = look_at_rows(ONE, wish, bent)
            self.assertEqual(self.check(told, rows_for(ONE, wish), bent), "parted")
            self.assertIsNot(takes(ONE, wish, told[1]), run(bent, told[1])[0])

    def refused(self, number, thing, wish=("yes",), grammar=ONE):
        with self.assertRaises(NoRows) as caught:
            look_at_rows(grammar, wish, thing)
        self.assertEqual(caught.exception.number, number)
        self.assertIs(type(caught.exception.number), type(number))

    def test_no_tuple_of_so_many(self):
        for thing in (None, True, 5, "end", [], [("end", True)], {}, (), (("end", True),) * 601, object()):
            self.refused(None, thing)
        self.assertEqual(look_at_rows(ONE, ("yes",), (("end", True),) * 600)[0], "alike")

    def test_the_first_that_is_none_by_its_form(self):
        good = [("take", 0, 0, 1, "big", 5), ("ask", 0, "less", 5, 5), ("back",), ("move", 1, 5), ("go", 5), ("end", True)]
        self.assertEqual(look_at_rows(ONE, ("yes",), tuple(good))[0], "alike")
        for number in range(6):
            for bad in (None, (), ("no",), ["back"], ("end", 1), ("take", True, 0, 1, "big", 5), ("go", number), ("go", 6), ("move", True, 5)):
                self.refused(number, tuple(good[:number] + [bad] + good[number + 1:]))
                for other in range(number + 1, 6):
                    self.refused(number, tuple(good[:number] + [bad] + good[number + 1:other] + [("no",)] + good[other + 1:]))
        self.refused(5, tuple(good[:5] + [("back",)]))

    def test_then_by_boxes_that_are_not_set(self):
        self.refused(0, (("ask", 0, "same", 1, 1), ("end", True)))
        self.refused(1, (("back",), ("skip", 3, 1, 0, 2), ("end", True)))
        self.refused(1, (("take", 0, 0, 1, "big", 1), ("ask", 0, "same", 1, 2), ("ask", 1, "same", 1, 3), ("end", True)))
        self.refused(2, (("take", 0, 0, 1, "big", 3), ("ask", 0, "same", 1, 2), ("ask", 1, "same", 1, 3), ("end", True)))
        self.refused(2, (("ask", 0, "same", 1, 1), ("back",), ("no",), ("end", True)))
        self.refused(3, (("ask", 0, "same", 1, 1), ("back",), ("skip", 1, 1, 1, 3), ("back",)))

    def test_the_order_of_refusals(self):
        great = great_grammar(6)
        many = joined([("is", ("way", "way", "way", name), "same", 5) for name in "abcdef"])
        with self.assertRaises(NoGrammar):
            look_at_rows((), None, None)
        with self.assertRaises(NoFilter):
            look_at_rows(great, None, None)
        self.refused(None, None, many, great)
        self.refused(0, (None,), many, great)
        with self.assertRaises(TooMany) as caught:
            look_at_rows(great, many, YES)
        self.assertGreater(caught.exception.many, 600)


class TwoFilters(Cases):
    def so_filters(self, grammar, one, other, word):
        for ahead, behind in ((one, other), (other, one)):
            told = compared(grammar, ahead, behind)
            self.assertEqual(self.check(told, rows_for(grammar, ahead), rows_for(grammar, behind)), word, (ahead, behind))
            if word == "parted":
                self.assertEqual({takes(grammar, ahead, told[1]), takes(grammar, behind, told[1])}, {True, False})
            else:
                self.assertLessEqual(depth_of(told[1]), 400)

    def test_put_otherwise(self):
        a = ("is", ("n",), "more", 700)
        b = ("is", ("b",), "same", 5)
        c = ("there", ("n",))
        for one, other in ((a, ("not", ("not", a))), (("and", a, b), ("and", b, a)), (("or", a, b), ("or", b, a)),
                           (("not", ("and", a, b)), ("or", ("not", a), ("not", b))), (("and", a, c), a), (("or", c, a), c),
                           (("is", ("n",), "less", 65536), c), (("is", ("n",), "more", 65535), ("not", ("yes",))),
                           (("and", a, ("not", a)), ("not", ("yes",))), (("or", a, ("not", a)), ("yes",)),
                           (("and", ("is", ("b",), "same", 1), ("is", ("b",), "same", 2)), ("not", ("yes",))),
                           (("is", ("a",), "more", 0), ("is", ("a",), "same", 1)), (("is", ("a",), "less", 2), ("there", ("b",))),
                           (("is", ("n",), "same", 700), ("and", ("is", ("n",), "less", 701), ("is", ("n",), "more", 699)))):
            self.so_filters(ONE, one, other, "alike")

    def test_not_alike(self):
        a = ("is", ("n",), "more", 700)
        b = ("is", ("b",), "same", 5)
        for one, other in ((a, ("not", a)), (("and", a, b), ("or", a, b)), (a, ("is", ("n",), "more", 701)), (b, ("is", ("b",), "same", 4)),
                           (("there", ("n",)), ("there", ("a",))), (("yes",), ("there", ("a",))), (("not", ("yes",)), ("yes",)),
                           (("is", ("a",), "same", 1), ("is", ("b",), "same", 1)), (("not", a), ("is", ("n",), "less", 701))):
            self.so_filters(ONE, one, other, "parted")

    def test_over_a_grammar_with_choices(self):
        for one, other, word in (
            (("kind", ("more",), "ping"), ("or", ("is", ("kind",), "same", 0), ("is", ("kind",), "same", 5)), "parted"),
            (("and", ("kind", ("more",), "ping"), ("there", ("more", "n"))), ("not", ("yes",)), "alike"),
            (("there", ("more", "x")), ("and", ("kind", ("more",), "ping"), ("not", ("not", ("there", ("more", "x"))))), "alike"),
            (("there", ("more", "x")), ("kind", ("more",), "ping"), "parted"),
            (("is", ("more", "lo"), "less", 4), ("and", ("there", ("more", "hi")), ("is", ("more", "lo"), "less", 4)), "alike"),
            (("kind", ("more", "deep"), "end"), ("and", ("is", ("more", "lo"), "same", 4), ("kind", ("more",), "data")), "alike"),
        ):
            self.so_filters(SHORT, one, other, word)

    def test_refusals_in_order(self):
        great = great_grammar(6)
        many = joined([("is", ("way", "way", "way", name), "same", 5) for name in "abcdef"])
        fewer = joined([("is", ("way", "way", "way", name), "same", 5) for name in "abcde"])
        with self.assertRaises(NoGrammar):
            compared(None, None, None)
        for one, other in ((None, ("yes",)), (("yes",), None), (many, None), (None, many)):
            with self.assertRaises(NoFilter):
                compared(great, one, other)
        numbers = []
        for one, other in ((many, ("yes",)), (("yes",), many), (many, fewer), (fewer, many)):
            with self.assertRaises(TooMany) as caught:
                compared(great, one, other)
            numbers.append(caught.exception.many)
        self.assertEqual(numbers[0], numbers[1])
        self.assertEqual(numbers[0], numbers[2])
        self.assertGreater(numbers[2], numbers[3])


def draw_rows(chance, many):
    while True:
        rows = tuple(draw_row(chance, number, many) for number in range(many - 1)) + (("end", chance.random() < 0.5),)
        if is_rows(rows) and sum(row[0] in ("skip", "take") for row in rows) < 5:
            return rows


class Drawn(Cases):
    def test_rows_beside_rows(self):
        chance = random.Random(160)
        told = {"alike": 0, "parted": 0}
        while min(told.values()) < 120:
            many = chance.randint(2, 10)
            one = draw_rows(chance, many)
            other = one
            if chance.random() < 0.8:
                at = chance.randrange(many - 1)
                other = one[:at] + (draw_row(chance, at, many),) + one[at + 1:]
            if chance.random() < 0.3:
                other = draw_rows(chance, many)
            if is_rows(other):
                word = self.check(beside(one, other), one, other)
                self.assertEqual(self.check(beside(other, one), other, one), word)
                told[word] += 1

    def test_alike_where_all_bytes_say_so(self):
        """Rows that ask but two bits of two bytes and the length: all that is so is gone through."""
        chance = random.Random(161)
        told = {"alike": 0, "parted": 0}
        for _ in range(400):
            pair = []
            for _ in range(2):
                rows = (("part", 0, 0, 3, 1, 7), ("part", 1, 1, 6, 1, 7))
                for at in range(2, 7):
                    rows += (chance.choice((("ask", 0, "same", chance.randint(0, 1), chance.randint(at + 1, 8)), ("back",),
                                            ("ask", 1, "more", 0, chance.randint(at + 1, 8)), ("move", 2, chance.randint(at + 1, 8)),
                                            ("go", chance.randint(at + 1, 8)))),)
                pair.append(rows + (("end", chance.random() < 0.5), ("end", chance.random() < 0.5)))
            one, other = pair
            letters = [(first * 8, second * 64) + (0,) * many for first in (0, 1) for second in (0, 1) for many in range(12)] + [(), (0,), (8,)]
            is_alike = all(run(one, some)[0] is run(other, some)[0] for some in letters)
            word = self.check(beside(one, other), one, other)
            self.assertEqual(word, "alike" if is_alike else "parted")
            told[word] += 1
        self.assertGreater(min(told.values()), 30, told)

    def test_filters_beside_their_rows_and_beside_others(self):
        chance = random.Random(162)
        told = {"alike": 0, "parted": 0}
        grammars = [grammar for grammar, _ in choosing(163, 25)] + wide_grammars(164, 25, most=3)
        for grammar in grammars:
            numbers, choices = paths_of(grammar)
            leaf = lambda: draw_leaf(chance, grammar, numbers, choices)
            one = draw_filter(chance, leaf, 4, 4)
            other = chance.choice((("not", one), ("not", ("not", one)), ("and", one, ("yes",)), draw_filter(chance, leaf, 4, 4)))
            rows = rows_for(grammar, one)
            self.assertEqual(self.check(look_at_rows(grammar, one, rows), rows, rows), "alike")
            answer = compared(grammar, one, other)
            word = self.check(answer, rows, rows_for(grammar, other))
            if word == "parted":
                self.assertIsNot(takes(grammar, one, answer[1]), takes(grammar, other, answer[1]))
            else:
                self.assertLessEqual(depth_of(answer[1]), 400)
            told[word] += 1
        self.assertGreater(min(told.values()), 8, told)


class HandedIn(unittest.TestCase):
    def test_by_names_and_told_anew(self):
        wish = ("is", ("n",), "same", 5)
        self.assertEqual(beside(one=YES, other=NO), beside(YES, NO))
        self.assertEqual(look_at_rows(grammar=ONE, wish=wish, thing=YES), look_at_rows(ONE, wish, YES))
        self.assertEqual(compared(grammar=ONE, one=wish, other=wish), compared(ONE, wish, wish))

    def test_stands_in_its_file(self):
        for name in ("beside", "look_at_rows", "compared"):
            self.assertEqual(getattr(comparing, name).__module__, "letterbench.comparing")


if __name__ == "__main__":
    unittest.main()
