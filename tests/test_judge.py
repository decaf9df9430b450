"""Promises 25, 26 and 3 (i): sheets judged, and what is told by a sheet and its lot."""

import copy
import random
import unittest

from sheetmaker import ASKER, CARRYING, TELLER, draw_lot, segment, setting
from test_sheet import BAD, NO_CATCHES, PARTS
from letterbench import judge
from letterbench.errors import NoLetter, NoPath, NoSetting
from letterbench.judge import bytes_at, is_sheet, judged, row_at, upper_at_step
from letterbench.sheet import sheet_of

LOT = [
    (0, 0, segment(0, (1, 77, 4))),
    (0, 1, segment(2, (8, 9, 3))),
    (1, 1, segment(0, (2, 1, 8))),
    (0, 0, ()),
    (0, 0, (2, 65, 66)),
    (0, 1, segment(0, (2, 1))),
    (0, 1, segment(5, (1, 0, 0))),
]
SETTING = setting()
SHEET = sheet_of(SETTING, LOT)


def deeply(thing, otherwise):
    """All that this thing is with one whole number or text within it otherwise."""
    if isinstance(thing, tuple):
        for at, inner in enumerate(thing):
            for other in deeply(inner, otherwise):
                yield thing[:at] + (other,) + thing[at + 1:]
    else:
        yield from otherwise(thing)


class Judged(unittest.TestCase):
    def so(self, thing, *wanted, told=None, lot=LOT):
        told = told or setting()
        ahead = copy.deepcopy((told, lot))
        self.assertEqual(judged(told, lot, thing), wanted)
        self.assertEqual(judged(setting=told, lot=lot, thing=thing), wanted)
        self.assertIs(is_sheet(told, lot, thing), wanted == ("sheet",))
        self.assertIs(is_sheet(setting=told, lot=lot, thing=thing), wanted == ("sheet",))
        self.assertEqual((told, lot), ahead)

    def bent_so(self, thing, *wanted):
        self.assertEqual(judged(SETTING, LOT, thing), wanted)

    def test_the_told_sheet(self):
        self.so(SHEET, "sheet")
        self.so(copy.deepcopy(SHEET), "sheet")
        self.so([], "sheet", lot=[])
        self.so([], "sheet", lot=[(0, 0, ())] * 0)

    def test_each_part_of_a_row_otherwise(self):
        for at, row in enumerate(SHEET):
            for place in range(9):
                for other in (None, "word", (), (1, 2), [], {}, "", object()):
                    if other != row[place]:
                        bent = row[:place] + (other,) + row[place + 1:]
                        wanted = ("none",) if place < 2 else ("bent",) + row[:2]
                        self.bent_so(SHEET[:at] + [bent] + SHEET[at + 1:], *wanted)

    def test_each_word_and_number_within_a_row_otherwise(self):
        def otherwise(thing):
            if isinstance(thing, str):
                return [thing + "x", "", None, 0]
            return [thing + 1, "0", None] if isinstance(thing, int) else [0, "none", ()]

        for at, row in enumerate(SHEET):
            for inner in deeply(row[2:], otherwise):
                self.bent_so(SHEET[:at] + [row[:2] + inner] + SHEET[at + 1:], "bent", *row[:2])

    def test_true_is_no_one(self):
        def truths(thing):
            return [thing == 1, float(thing)] if isinstance(thing, int) and thing in (0, 1) else []

        seen = 0
        for at, row in enumerate(SHEET):
            for inner in deeply(row, truths):
                if type(inner[0]) is int is type(inner[1]):
                    self.bent_so(SHEET[:at] + [inner] + SHEET[at + 1:], "bent", *row[:2])
                else:
                    self.bent_so(SHEET[:at] + [inner] + SHEET[at + 1:], "none")
                seen += 1
        self.assertGreater(seen, 40)

    def test_the_lesser_pair(self):
        row = SHEET[10]
        self.assertGreater(row[1], 0)
        for other in ((0, 0), (0, 99), (0, -5), (-1, 7), (row[0], 0), (row[0], row[1] - 1), (row[0], row[1] + 1), (row[0], 99), (row[0] + 1, 0), (99, 99)):
            bent = other + row[2:]
            self.so(SHEET[:10] + [bent] + SHEET[11:], "bent", *min(row[:2], other))

    def test_a_row_left_out_twice_or_exchanged(self):
        for at, row in enumerate(SHEET):
            told = SHEET[:at] + SHEET[at + 1:]
            self.so(told, "bent", *row[:2])
            if row != SHEET[at - 1]:
                behind = SHEET[at + 1:at + 2] or [row]
                self.so(SHEET[:at] + [row] + SHEET[at:], "bent", *min(row[:2], behind[0][:2]))
        for at, (row, behind) in enumerate(zip(SHEET, SHEET[1:])):
            self.so(SHEET[:at] + [behind, row] + SHEET[at + 2:], "bent", *min(row[:2], behind[:2]))

    def test_more_rows_at_the_end_or_fewer(self):
        more = (77, 5) + SHEET[0][2:]
        self.so(SHEET + [more], "bent", 77, 5)
        self.so(SHEET + [SHEET[0]], "bent", 0, 0)
        self.so(SHEET + [SHEET[-1]] * 3, "bent", *SHEET[-1][:2])
        self.so([], "bent", 0, 0)
        self.so([more], "bent", 77, 5, lot=[])
        for many in range(len(SHEET)):
            self.so(SHEET[:many], "bent", *SHEET[many][:2])

    def test_of_several_the_first(self):
        bent = [row[:5] + (None,) + row[6:] for row in SHEET]
        self.so(bent, "bent", *SHEET[0][:2])
        self.so(SHEET[:5] + bent[5:], "bent", *SHEET[5][:2])
        self.so(SHEET[:5] + bent[5:-1], "bent", *SHEET[5][:2])

    def test_none(self):
        row = SHEET[0]
        for thing in (None, True, 5, "sheet", tuple(SHEET), {}, dict(enumerate(SHEET)), set(SHEET), object()):
            self.bent_so(thing, "none")
        for bad in (None, True, 5, "row", (), [], list(row), row[:8], row + (None,), {}, (True,) + row[1:], (None,) + row[1:], ("0",) + row[1:],
                    ((0,),) + row[1:], (0.0,) + row[1:], row[:1] + (False,) + row[2:], row[:1] + (None,) + row[2:], row[:1] + ("0",) + row[2:], ([],) + row[1:]):
            for at in (0, 3, len(SHEET)):
                self.bent_so(SHEET[:at] + [bad] + SHEET[at:], "none")
            self.bent_so([bad], "none")
            self.bent_so([(9, 9) + row[2:], bad], "none")

    def test_the_sheet_of_another_lot_or_setting(self):
        other = LOT[:2] + [(0, 1, LOT[2][2])] + LOT[3:]
        self.assertEqual(judged(setting(), other, SHEET)[0], "bent")
        self.assertEqual(judged(setting(rule="later"), LOT, SHEET)[0], "bent")
        self.assertEqual(judged(setting(sort=("other",)), LOT, SHEET)[0], "bent")
        self.assertEqual(judged(setting(ends=(TELLER, ASKER)), LOT, SHEET)[0], "bent")
        self.assertEqual(judged(setting(carrying=CARRYING[:3] + (None,)), LOT, SHEET)[0], "sheet")
        self.so(sheet_of(setting(rule="later"), LOT), "sheet", told=setting(rule="later"))

    def test_refused_ahead(self):
        for call in (judged, is_sheet):
            for part in PARTS:
                with self.assertRaises(NoSetting) as caught:
                    call(setting(**{part: BAD[part][0]}), None, None)
                self.assertEqual(caught.exception.part, part)
            for bad in NO_CATCHES:
                with self.assertRaises(NoLetter) as caught:
                    call(setting(), LOT[:2] + [bad], None)
                self.assertEqual(caught.exception.number, 2)
            with self.assertRaises(NoLetter) as caught:
                call(setting(), None, None)
            self.assertIsNone(caught.exception.number)

    def test_whatever_is_let_by_is_so(self):
        chance = random.Random(270)
        bent = 0
        for _ in range(80):
            lot = draw_lot(chance)
            told = setting(rule=chance.choice(("first", "later")))
            rows = sheet_of(told, lot)
            self.assertEqual(judged(told, lot, rows), ("sheet",))
            if rows:
                at = chance.randrange(len(rows))
                other = list(rows)
                place = chance.randrange(2, 9)
                other[at] = other[at][:place] + (chance.choice(rows)[place],) + other[at][place + 1:]
                wanted = ("sheet",) if other == rows else ("bent",) + rows[at][:2]
                self.assertEqual(judged(told, lot, other), wanted)
                bent += other != rows
        self.assertGreater(bent, 20)


class RowAt(unittest.TestCase):
    def test_each_byte_of_each_letter(self):
        for letter, (_, _, some) in enumerate(LOT):
            for byte in range(len(some)):
                row = row_at(SHEET, letter, byte)
                self.assertIn(row, SHEET)
                self.assertEqual(row[0], letter)
                self.assertTrue(row[1] <= byte < row[2])
                self.assertEqual(row_at(sheet=SHEET, letter=letter, byte=byte), row)

    def test_bytes_that_are_not_there(self):
        for letter, byte in ((0, -1), (0, len(LOT[0][2])), (3, 0), (7, 0), (-1, 0), (0, 10 ** 40), (True, 0), (0, True), (0, False), (None, 0), (0, None),
                             ("0", 0), (0, "0"), ((), []), ([], 0)):
            with self.assertRaises(NoPath) as caught:
                row_at(SHEET, letter, byte)
            self.assertEqual(caught.exception.path, (letter, byte))
        with self.assertRaises(NoPath):
            row_at([], 0, 0)

    def test_spreads_of_none_are_passed_over(self):
        rows = sheet_of(setting(), [(0, 0, segment(3, ()))])
        self.assertEqual(row_at(rows, 0, 5)[3], ("way", "check"))


class BytesAt(unittest.TestCase):
    def so(self, side, number, path, *wanted):
        self.assertEqual(bytes_at(SHEET, LOT, side, number, path), list(wanted))
        told = bytes_at(sheet=SHEET, lot=LOT, side=side, number=number, path=path)
        told.append(None)
        self.assertEqual(bytes_at(SHEET, LOT, side, number, path), list(wanted))

    def test_all_bytes_of_an_upper_letter(self):
        self.so(0, 0, (), (0, 5), (0, 6))
        self.so(0, 1, (), (0, 7))
        self.so(1, 0, (), (5, 5), (5, 6), (1, 5), (1, 6))
        self.so(1, 1, (), (1, 7), (6, 5))

    def test_of_a_path_and_its_beginning(self):
        self.so(1, 0, ("tag",), (5, 5))
        self.so(1, 0, ("act",), (5, 6), (1, 5), (1, 6))
        self.so(1, 0, ("act", "key"), (1, 5), (1, 6))
        self.so(1, 0, ("act", "id"), (5, 6))

    def test_what_is_not_there(self):
        for side, number, path in ((0, 2, ()), (1, 2, ()), (2, 0, ()), (-1, 0, ()), (0, -1, ()), (0, 0, ("act", "key")), (0, 0, ("ac",)), (0, 0, ("act", "id", "more")),
                                   (0, 0, (0,)), (True, 0, ()), (0, True, ()), (0, False, ()), (None, 0, ()), (0, None, ())):
            self.so(side, number, path)

    def test_rows_of_the_path(self):
        lower = setting()["lower"]
        upper = (("msg", (("number", "many", 1, "big", 0, 9), ("row", "list", "pair", ("of", "many")))), ("pair", (("number", "a", 1, "big", 0, 9), ("number", "b", 1, "big", 0, 9))))
        told = setting(lower=lower, upper=upper)
        lot = [(0, 0, segment(3, (7, 8))), (0, 0, segment(0, (2, 5, 6)))]
        rows = sheet_of(told, lot)
        self.assertEqual(bytes_at(rows, lot, 0, 0, ("list",)), [(1, 6), (1, 7), (0, 5), (0, 6)])
        self.assertEqual(bytes_at(rows, lot, 0, 0, ("list", 1)), [(0, 5), (0, 6)])
        self.assertEqual(bytes_at(rows, lot, 0, 0, ("list", 1, "b")), [(0, 6)])
        self.assertEqual(bytes_at(rows, lot, 0, 0, ("list", 0)), [(1, 6), (1, 7)])
        self.assertEqual(bytes_at(rows, lot, 0, 0, ("list", True)), [])
        self.assertEqual(bytes_at(rows, lot, 0, 0, ("list", False)), [])

    def test_bytes_left_over_and_again_are_none(self):
        found = sum([bytes_at(SHEET, LOT, side, number, ()) for side in (0, 1) for number in range(4)], [])
        wanted = [(row[0], byte) for row in SHEET if row[7] for byte in range(row[1], row[2])]
        self.assertEqual(sorted(found), sorted(wanted))
        self.assertNotIn((6, 6), found)
        self.assertNotIn((2, 5), found)


class UpperAtStep(unittest.TestCase):
    def test_each_step(self):
        for step, wanted in enumerate(((0, 0), (0, 1), (1, 0), (1, 1))):
            self.assertEqual(upper_at_step(SHEET, LOT, step), wanted)
            self.assertEqual(upper_at_step(sheet=SHEET, lot=LOT, step=step), wanted)

    def test_steps_that_are_not_there(self):
        for step in (4, 60, -1, 10 ** 40, True, False, None, "0", (), [], {}):
            with self.assertRaises(NoPath) as caught:
                upper_at_step(SHEET, LOT, step)
            self.assertEqual(caught.exception.path, step)
        with self.assertRaises(NoPath):
            upper_at_step([], [], 0)

    def test_beyond_sixty(self):
        lot = [(0, 0, segment(0, (4,) * 60)), (0, 0, segment(60, (4,)))]
        rows = sheet_of(setting(), lot)
        self.assertEqual(upper_at_step(rows, lot, 59), (0, 59))
        with self.assertRaises(NoPath):
            upper_at_step(rows, lot, 60)
        self.assertEqual(bytes_at(rows, lot, 0, 60, ()), [(1, 5)])


class Drawn(unittest.TestCase):
    def test_the_ways_back_agree(self):
        chance = random.Random(271)
        for _ in range(60):
            lot = draw_lot(chance)
            rows = sheet_of(setting(), lot)
            steps = sorted({row[8][0] for row in rows if row[8]})
            self.assertEqual(steps, list(range(len(steps))))
            for step in steps:
                side, number = upper_at_step(rows, lot, step)
                for letter, byte in bytes_at(rows, lot, side, number, ()):
                    row = row_at(rows, letter, byte)
                    self.assertEqual((lot[letter][1], row[7][0], row[8][0]), (side, number, step))
                    self.assertIn((letter, byte), bytes_at(rows, lot, side, number, row[7][1]))


class Places(unittest.TestCase):
    def test_stand_in_their_file(self):
        for name in ("judged", "is_sheet", "row_at", "bytes_at", "upper_at_step"):
            self.assertEqual(getattr(judge, name).__module__, "letterbench.judge")


if __name__ == "__main__":
    unittest.main()
