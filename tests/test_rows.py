"""Promise 13: rows of the machine looked at, and run on bytes."""

import random
import unittest

from letterbench import rows as rows_file
from letterbench.rows import MOST_ROWS, is_rows, run

END = ("end", True)
NO = ("end", False)
NO_NUMBERS = (None, True, False, "1", (1,), [1], {}, b"1", ())


def fill(row, many=3):
    """Rows that begin with this one, a row that sets box 0 ahead of it, ends behind it."""
    return (("take", 0, 0, 1, "big", 2), row) + (END,) * many


class Forms(unittest.TestCase):
    def so(self, *rows):
        self.assertIs(is_rows(rows), True, rows)

    def not_so(self, thing):
        self.assertIs(is_rows(thing), False, thing)

    def row_so(self, row):
        self.so(*fill(row))

    def row_not_so(self, row):
        self.not_so(fill(row))

    def parts(self, row, place, least, most):
        """The part at this place of a row may be from least to most."""
        for part in (least, most, (least + most) // 2):
            self.row_so(row[:place] + (part,) + row[place + 1:])
        for part in NO_NUMBERS + (least - 1, most + 1, 10 ** 30, -10 ** 30):
            self.row_not_so(row[:place] + (part,) + row[place + 1:])

    def test_most_rows(self):
        self.assertEqual(MOST_ROWS, 600)
        self.assertIs(type(MOST_ROWS), int)

    def test_one_row(self):
        self.so(END)
        self.so(NO)

    def test_six_hundred_rows(self):
        self.so(*(("back",),) * 599, END)
        self.not_so((("back",),) * 600 + (END,))
        self.so(*(END,) * 600)
        self.not_so((END,) * 601)
        self.so(("go", 599), *(("go", 599),) * 598, NO)

    def test_things_that_are_no_rows(self):
        for thing in (None, True, 5, "end", b"end", [], [END], {}, (), END, (None,), (5,), ("end",), ((),), ([],), (["end", True],),
                      ({},), (("no",),), ((END,),), (("END", True),), ((None, True),), ((["end"], True),), ((("end",), True),),
                      (({}, True),), ((0, True),), object(), frozenset([END]), ((b"end", True),), (END, None), (None, END)):
            self.not_so(thing)

    def test_truths(self):
        for truth in (1, 0, None, "yes", "True", (True,), [True], {}, 2, ()):
            self.not_so((("end", truth),))
            self.not_so((("end", truth), END))

    def test_too_few_or_many_parts(self):
        for row in (("take", 0, 0, 1, "big", 2), ("part", 0, 0, 0, 1, 2), ("move", 0, 2), ("skip", 0, 1, 0, 2),
                    ("ask", 0, "same", 0, 2), ("go", 2), ("back",), ("end", True)):
            self.row_so(row)
            self.row_not_so(row + (2,))
            self.row_not_so(row + (None,))
            self.row_not_so(list(row))
            if len(row) > 1:
                self.row_not_so(row[:-1])
                self.row_not_so(row[:1])

    def test_take(self):
        row = ("take", 0, 0, 1, "small", 2)
        self.parts(row, 1, 0, 7)
        self.parts(row, 2, 0, 500)
        self.parts(row, 3, 1, 4)
        self.parts(row, 5, 2, 4)
        for order in ("big", "small"):
            self.row_so(row[:4] + (order, 2))
        for order in NO_NUMBERS + (0, 1, "Big", "", "little", ("big",), ["big"]):
            self.row_not_so(row[:4] + (order, 2))

    def test_part(self):
        row = ("part", 0, 0, 0, 1, 2)
        self.parts(row, 1, 0, 7)
        self.parts(row, 2, 0, 500)
        self.parts(row, 3, 0, 7)
        self.parts(row, 4, 1, 8)
        self.parts(row, 5, 2, 4)
        self.row_so(("part", 7, 500, 7, 8, 4))

    def test_move(self):
        self.parts(("move", 0, 2), 1, 0, 500)
        self.parts(("move", 0, 2), 2, 2, 4)

    def test_skip(self):
        row = ("skip", 0, 1, 0, 2)
        self.parts(row, 2, 1, 8)
        self.parts(row, 3, -40, 40)
        self.parts(row, 4, 2, 4)
        for box in NO_NUMBERS + (-1, 8, 10 ** 30):
            self.row_not_so(("skip", box, 1, 0, 2))

    def test_ask(self):
        row = ("ask", 0, "same", 0, 2)
        self.parts(row, 4, 2, 4)
        for word in ("same", "less", "more"):
            self.row_so(("ask", 0, word, 5, 2))
        for word in NO_NUMBERS + (0, "Same", "", "equal", ("same",), ["less"]):
            self.row_not_so(("ask", 0, word, 5, 2))
        for worth in (0, 1, 255, 2 ** 32, 10 ** 50):
            self.row_so(("ask", 0, "less", worth, 2))
        for worth in NO_NUMBERS + (-1, -10 ** 50):
            self.row_not_so(("ask", 0, "less", worth, 2))
        for box in NO_NUMBERS + (-1, 8, 10 ** 30):
            self.row_not_so(("ask", box, "same", 0, 2))

    def test_go(self):
        self.parts(("go", 2), 1, 2, 4)
        self.not_so((("go", 0), END))
        self.so(("go", 1), END)

    def test_to_goes_to_a_row_behind(self):
        for row in (("take", 0, 0, 1, "big"), ("part", 0, 0, 0, 1), ("move", 0), ("skip", 0, 1, 0), ("ask", 0, "same", 0), ("go",)):
            for to in (-1, 0, 1):
                self.row_not_so(row + (to,))
            for to in (2, 3, 4):
                self.row_so(row + (to,))
            self.row_not_so(row + (5,))

    def test_the_last_one_is_an_end(self):
        for row in (("back",), ("go", 2), ("move", 0, 2), ("take", 0, 0, 1, "big", 2)):
            self.not_so((END, row))
            self.not_so((row,))
        self.so(END, NO, END)

    def test_the_first_wrong_one_may_stand_anywhere(self):
        for number in range(5):
            good = [("back",)] * 4 + [END]
            good[number] = ("back", 1)
            self.not_so(tuple(good))


class Boxes(unittest.TestCase):
    """By whatever way a row is come to, its boxes that it asks were set ahead."""

    def so(self, *rows):
        self.assertIs(is_rows(rows), True, rows)

    def not_so(self, *rows):
        self.assertIs(is_rows(rows), False, rows)

    def test_set_ahead(self):
        for setting in (("take", 3, 0, 1, "big", 2), ("part", 3, 0, 0, 8, 2)):
            for asking in (("ask", 3, "same", 1, 2), ("skip", 3, 1, 0, 2)):
                self.so(setting, asking, END)
                self.not_so(asking, setting, END)
                self.not_so(("back",), asking, END)
                self.not_so(setting, asking[:1] + (2,) + asking[2:], END)
                self.so(setting[:-1] + (4,), ("back",), ("move", 1, 4), asking[:-1] + (4,), END)

    def test_not_set_where_the_bytes_are_too_few(self):
        for setting in (("take", 0, 0, 1, "big", 1), ("part", 0, 0, 0, 8, 1)):
            self.not_so(setting, ("ask", 0, "same", 1, 2), END)
            self.so(setting, setting[:-1] + (3,), ("ask", 0, "same", 1, 3), END)

    def test_set_on_one_way_alone(self):
        self.not_so(("take", 0, 0, 1, "big", 4), ("ask", 0, "same", 7, 3), ("take", 1, 0, 1, "big", 4),
                    ("ask", 1, "more", 3, 4), END)
        self.so(("take", 0, 0, 1, "big", 4), ("take", 1, 0, 1, "big", 4), ("ask", 0, "same", 7, 3), ("ask", 1, "more", 3, 4),
                END)

    def test_set_on_either_way(self):
        self.so(("take", 0, 0, 1, "big", 6), ("ask", 0, "same", 7, 4), ("take", 1, 0, 1, "big", 6), ("go", 5),
                ("take", 1, 1, 1, "big", 6), ("ask", 1, "more", 3, 6), END)

    def test_ways_of_move_skip_and_ask(self):
        for row in (("move", 1, 3), ("skip", 0, 1, 0, 3), ("ask", 0, "less", 4, 3)):
            self.not_so(("take", 0, 0, 1, "big", 4), row, ("take", 1, 0, 1, "big", 4), ("ask", 1, "same", 0, 4), END)
            self.so(("take", 1, 0, 1, "big", 5), ("take", 0, 0, 1, "big", 5), row[:-1] + (3,), ("take", 2, 0, 1, "big", 5),
                    ("ask", 1, "same", 0, 5), END)

    def test_a_row_that_no_way_leads_to(self):
        asking = ("ask", 5, "same", 0, 2)
        self.so(("go", 2), asking, END)
        self.so(END, asking, END)
        self.so(("go", 3), asking, ("skip", 5, 1, 0, 3), END)
        self.not_so(("back",), asking, END)

    def test_a_way_from_a_row_that_no_way_leads_to_is_none(self):
        self.so(("take", 0, 0, 1, "big", 4), ("go", 3), ("go", 3), ("ask", 0, "same", 0, 4), END)
        self.so(("take", 0, 0, 1, "big", 4), ("go", 3), ("take", 1, 0, 1, "big", 3), ("ask", 0, "same", 0, 4), END)

    def test_each_box_by_itself(self):
        takes = tuple(("take", box, 0, 1, "big", 16) for box in range(8))
        asks = tuple(("ask", box, "same", 0, 16) for box in range(8))
        self.so(*takes, *asks, END)
        for box in range(8):
            lacking = takes[:box] + (("back",),) + takes[box + 1:]
            self.not_so(*lacking, *asks, END)

    def test_five_hundred_askings(self):
        many = 598
        asks = tuple(("ask", 0, "same", number, 599) for number in range(many))
        self.so(("take", 0, 0, 1, "big", 599), *asks, END)
        self.not_so(("take", 1, 0, 1, "big", 599), *asks, END)


class Running(unittest.TestCase):
    def ran(self, rows, some, truth, seen):
        self.assertIs(is_rows(rows), True)
        told = run(rows, some)
        self.assertEqual(told, (truth, seen))
        self.assertIsInstance(told, tuple)
        self.assertIs(told[0], truth)

    def asked(self, rows, some, worth, seen, box=0):
        """Behind these rows the box has this worth; None as a row's to is that of an end that tells no."""
        at = len(rows)
        rows = tuple(row[:-1] + (at + 1,) if row[-1] is None else row for row in rows)
        self.ran(rows + (("ask", box, "same", worth, at + 2), NO, END), some, True, seen)
        self.ran(rows + (("ask", box, "same", worth + 1, at + 2), NO, END), some, False, seen)

    def test_ends(self):
        for some in ((), (1, 2, 3)):
            self.ran((END,), some, True, 0)
            self.ran((NO,), some, False, 0)
            self.ran((("go", 2), END, NO), some, False, 0)
            self.ran((("back",), END, NO), some, True, 0)

    def test_take(self):
        some = (1, 2, 3, 4, 5)
        for size in (1, 2, 3, 4):
            for more in range(6 - size):
                for order in ("big", "small"):
                    piece = bytes(some[more:more + size])
                    worth = int.from_bytes(piece, "big" if order == "big" else "little")
                    self.asked((("take", 3, more, size, order, None),), some, worth, more + size, box=3)

    def test_take_beyond_the_bytes(self):
        for many in range(5):
            some = (9,) * many
            for size in (1, 2, 3, 4):
                for more in (0, 1, 2, 5, 500):
                    rows = (("take", 0, more, size, "big", 2), END, NO)
                    is_there = more + size <= many
                    self.ran(rows, some, is_there, more + size if is_there else 0)

    def test_take_beyond_the_bytes_leaves_box_and_place(self):
        rows = (("take", 0, 0, 1, "big", None), ("move", 1, None), ("take", 0, 0, 4, "big", 3))
        self.asked(rows, (7, 8), 7, 1)
        self.asked(rows + (("take", 1, 0, 1, "big", None),), (7, 8), 8, 2, box=1)
        self.asked(rows + (("take", 1, 0, 1, "big", None),), (7, 8), 7, 2, box=0)

    def test_part(self):
        byte = 0b10110010
        for shift in range(8):
            for width in range(1, 9):
                worth = (byte // 2 ** shift) % 2 ** width
                self.asked((("part", 0, 1, shift, width, None),), (255, byte, 255), worth, 2)

    def test_part_of_fewer_bits_above(self):
        self.asked((("part", 0, 0, 7, 8, None),), (0b10000000,), 1, 1)
        self.asked((("part", 0, 0, 3, 8, None),), (255,), 31, 1)
        self.asked((("part", 0, 0, 0, 8, None),), (255,), 255, 1)

    def test_part_beyond_the_bytes(self):
        for many in range(4):
            for more in (0, 1, 2, 3, 500):
                rows = (("part", 0, more, 0, 8, 2), END, NO)
                self.ran(rows, (9,) * many, more < many, more + 1 if more < many else 0)
        rows = (("part", 0, 0, 4, 4, 4), ("part", 0, 1, 0, 4, 2), ("ask", 0, "same", 5, 4), NO, END)
        self.ran(rows, (0x5f,), True, 1)

    def test_move(self):
        some = (10, 11, 12)
        for more in (0, 1, 2):
            self.asked((("move", more, None), ("take", 0, 0, 1, "big", None)), some, 10 + more, more + 1)
        self.ran((("move", 3, 2), END, NO), some, True, 0)
        for more in (4, 5, 500):
            self.ran((("move", more, 2), END, NO), some, False, 0)
        self.ran((("move", 0, 2), END, NO), (), True, 0)
        self.ran((("move", 1, 2), END, NO), (), False, 0)

    def test_move_is_from_the_place(self):
        some = (10, 11, 12, 13)
        self.asked((("move", 1, None), ("move", 1, None), ("take", 0, 1, 1, "big", None)), some, 13, 4)
        self.ran((("move", 2, 3), ("move", 2, 3), END, NO), some, True, 0)
        self.ran((("move", 2, 3), ("move", 3, 3), END, NO), some, False, 0)

    def test_a_move_beyond_the_bytes_leaves_the_place(self):
        some = (10, 11, 12)
        self.asked((("move", 1, None), ("move", 3, 2), ("take", 0, 0, 1, "big", None)), some, 11, 2)

    def test_back(self):
        some = (10, 11, 12)
        self.asked((("move", 2, None), ("back",), ("take", 0, 0, 1, "big", None)), some, 10, 1)
        self.asked((("move", 2, None), ("back",), ("move", 1, None), ("take", 0, 0, 1, "big", None)), some, 11, 2)

    def test_skip(self):
        some = (3, 2, 0, 12, 13, 14, 15, 16)
        for times, more, place in ((1, 0, 3), (1, 2, 5), (2, 0, 6), (2, -3, 3), (3, -2, 7), (1, -3, 0), (8, -24, 0)):
            rows = (("take", 0, 0, 1, "big", None), ("skip", 0, times, more, None), ("take", 1, 0, 1, "big", None))
            self.asked(rows, some, some[place], max(1, place + 1), box=1)
        for times, more, is_done in ((1, 5, True), (1, 6, False), (2, 2, True), (2, 3, False), (8, 40, False), (1, 40, False),
                                     (1, -3, True), (1, -4, False), (8, -40, False), (2, -7, False)):
            self.ran((("take", 0, 0, 1, "big", 3), ("skip", 0, times, more, 3), END, NO), some, is_done, 1)

    def test_skip_is_from_the_place_and_leaves_it(self):
        some = (1, 2, 0, 12, 13)
        rows = (("take", 0, 1, 1, "big", None), ("move", 1, None), ("skip", 0, 1, 0, None), ("take", 1, 0, 1, "big", None))
        self.asked(rows, some, 12, 4, box=1)
        for times, more in ((1, -3), (1, 3), (8, -17)):
            rows = (("take", 0, 1, 1, "big", None), ("move", 1, None), ("skip", 0, times, more, 3), ("take", 1, 0, 1, "big", None))
            self.asked(rows, some, 2, 2, box=1)

    def test_skip_by_a_great_box(self):
        self.ran((("take", 0, 0, 4, "big", 3), ("skip", 0, 8, 40, 3), END, NO), (255,) * 9, False, 4)

    def test_ask(self):
        for number in (0, 5, 255):
            for worth in (0, 4, 5, 6, 255, 256, 10 ** 30):
                for word, truth in (("same", number == worth), ("less", number < worth), ("more", number > worth)):
                    rows = (("take", 0, 0, 1, "big", 2), ("ask", 0, word, worth, 3), NO, END)
                    self.ran(rows, (number,), truth, 1)

    def test_each_box_is_its_own(self):
        takes = tuple(("take", box, box, 1, "big", 18) for box in range(8))
        some = tuple(range(20, 28))
        for box in range(8):
            for other in range(8):
                rows = takes + (("ask", box, "same", 20 + other, 10), NO, END) + (END,) * 8
                self.ran(rows, some, box == other, 8)

    def test_seen_is_the_greatest(self):
        rows = (("take", 0, 3, 2, "big", 3), ("part", 1, 0, 0, 1, 3), ("take", 1, 0, 1, "big", 3), END)
        self.ran(rows, (1,) * 9, True, 5)
        self.ran((("move", 5, 1), ("take", 0, 0, 1, "big", 3), ("back",), END), (1,) * 9, True, 6)
        self.ran((("move", 9, 1), END), (1,) * 9, True, 0)
        self.ran((("take", 0, 0, 1, "big", 2), ("take", 0, 1, 4, "big", 2), END), (1, 2, 3), True, 1)


def run_otherwise(rows, some):
    """What rows tell, worked out in another way: by a stand of number, place, boxes and seen that each row makes anew."""
    number, place, boxes, seen = 0, 0, {}, 0
    some = bytes(some)
    while True:
        word, *parts = rows[number]
        if word == "end":
            return parts[0], seen
        to = parts[-1] if parts else None
        number += 1
        if word == "back":
            place = 0
        elif word == "go":
            number = to
        elif word in ("move", "skip"):
            more = parts[0] if word == "move" else boxes[parts[0]] * parts[1] + parts[2]
            if 0 <= more <= len(some) - place:
                place += more
            else:
                number = to
        elif word == "ask":
            if {"same": int.__eq__, "less": int.__lt__, "more": int.__gt__}[parts[1]](boxes[parts[0]], parts[2]):
                number = to
        else:
            begin = place + parts[1]
            piece = some[begin:begin + (parts[2] if word == "take" else 1)]
            if len(piece) < (parts[2] if word == "take" else 1):
                number = to
            elif word == "take":
                boxes[parts[0]] = int.from_bytes(piece, {"big": "big", "small": "little"}[parts[3]])
                seen = max(seen, begin + len(piece))
            else:
                bits = format(piece[0], "08b")[:8 - parts[2]]
                boxes[parts[0]] = int(bits[-parts[3]:], 2)
                seen = max(seen, begin + 1)


def all_ways_set(rows):
    """Whether on each single way through the rows what is asked was set: all ways are gone one by one."""
    waiting = [(0, frozenset())]
    gone = set()
    while waiting:
        number, boxes = waiting.pop()
        if (number, boxes) in gone:
            continue
        gone.add((number, boxes))
        row = rows[number]
        if row[0] in ("ask", "skip") and row[1] not in boxes:
            return False
        if row[0] not in ("end", "back"):
            waiting.append((row[-1], boxes))
        if row[0] not in ("end", "go"):
            waiting.append((number + 1, boxes | {row[1]} if row[0] in ("take", "part") else boxes))
    return True


def draw_row(chance, number, many):
    word = chance.choice(("take", "take", "take", "part", "part", "move", "skip", "ask", "ask", "go", "back", "end"))
    to = chance.choice((number + 1, many - 1, chance.randint(number + 1, many - 1)))
    box = chance.choice((0, 0, 0, 1, 7))
    more = chance.choice((0, 0, 1, 2, 5))
    return {
        "take": ("take", box, more, chance.randint(1, 4), chance.choice(("big", "small")), to),
        "part": ("part", box, more, chance.randint(0, 7), chance.randint(1, 8), to),
        "move": ("move", more, to),
        "skip": ("skip", box, chance.randint(1, 3), chance.randint(-4, 4), to),
        "ask": ("ask", box, chance.choice(("same", "less", "more")), chance.choice((0, 1, 2, 100, 255, 300)), to),
        "go": ("go", to),
        "back": ("back",),
        "end": ("end", chance.random() < 0.5),
    }[word]


class Drawn(unittest.TestCase):
    def test_as_worked_out_otherwise(self):
        chance = random.Random(71)
        told = {"rows": 0, "none": 0, "seen": 0, "yes": 0}
        for _ in range(6000):
            many = chance.randint(1, 14)
            rows = tuple(draw_row(chance, number, many) for number in range(many - 1)) + (("end", chance.random() < 0.5),)
            is_set = all_ways_set(rows)
            self.assertIs(is_rows(rows), is_set, rows)
            told["rows" if is_set else "none"] += 1
            if not is_set:
                continue
            for _ in range(5):
                some = tuple(chance.choice((0, 1, 2, 3, 100, 255)) for _ in range(chance.randint(0, 12)))
                answer = run(rows, some)
                self.assertEqual(answer, run_otherwise(rows, some))
                told["seen"] += answer[1] > 0
                told["yes"] += answer[0]
        self.assertGreater(min(told.values()), 1000, told)


class HandedIn(unittest.TestCase):
    def test_by_names(self):
        self.assertIs(is_rows(thing=(END,)), True)
        self.assertEqual(run(rows=(END,), some=()), (True, 0))

    def test_told_anew(self):
        rows = (("take", 0, 0, 1, "big", 1), END)
        self.assertEqual(run(rows, (5, 6)), run(rows, (5, 6)))
        self.assertEqual(rows, (("take", 0, 0, 1, "big", 1), END))

    def test_stands_in_its_file(self):
        for name in ("is_rows", "run"):
            self.assertEqual(getattr(rows_file, name).__module__, "letterbench.rows")


if __name__ == "__main__":
    unittest.main()
