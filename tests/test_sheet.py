"""Promises 25 and 3 (i): settings and lots looked at, and the sheet of a lot."""

import copy
import random
import unittest

from sheetmaker import ASKER, CARRYING, LOWER, TELLER, UPPER, draw_lot, segment, setting, slow_sheet
from test_losses import called, field_called
from letterbench import sheet
from letterbench.errors import NoLetter, NoSetting
from letterbench.grammars import look_at_grammar
from letterbench.reading import spreads_of
from letterbench.sheet import look_at_lot, look_at_setting, sheet_of

PARTS = ("lower", "carrying", "rule", "upper", "sort", "ends")
BAD = {
    "lower": (None, True, 5, (), [], {}, LOWER[:1], list(LOWER), "lower"),
    "carrying": (None, True, 5, (), [], {}, list(CARRYING), CARRYING[:3], ((), "off", "body", "fin"), (("way",), "off", "body", "none"), (("way",), "len", "check", None)),
    "rule": (None, True, 0, "", "last", "First", ("first",), ["first"], {}, b"first"),
    "upper": (None, True, 5, (), [], {}, UPPER[:1], list(UPPER), "upper"),
    "sort": (None, True, 5, "act", (), [], ["act"], {}, ("",), ("Act",), ("act", None), ("act", 0), ("actactact",), (("act",),), (True,), (["act"],)),
    "ends": (None, True, 5, (), [], {}, [ASKER, TELLER], (ASKER,), (ASKER, TELLER, ASKER), (ASKER, None), (None, TELLER), (ASKER, (("a",), (None,))), (ASKER, [])),
}
NO_CATCHES = (None, True, 5, "catch", (), [], {}, [0, 0, ()], (0, 0), (0, ()), (0, 0, (), 0), (True, 0, ()), (0, True, ()), (False, 0, ()), (0, False, ()),
              (2, 0, ()), (0, 2, ()), (-1, 0, ()), (0, -1, ()), (None, 0, ()), (0, None, ()), ("0", 0, ()), (0, 0, None), (0, 0, []), (0, 0, [5]), (0, 0, b"a"),
              (0, 0, "a"), (0, 0, (256,)), (0, 0, (-1,)), (0, 0, (True,)), (0, 0, (5, None)), ((), 0, 0))


class Settings(unittest.TestCase):
    def refused(self, thing, part):
        for call in (look_at_setting, lambda told: sheet_of(told, None), lambda told: sheet_of(told, [])):
            with self.assertRaises(NoSetting) as caught:
                call(thing)
            self.assertEqual(caught.exception.part, part, thing)

    def test_settings(self):
        self.assertIsNone(look_at_grammar(LOWER))
        self.assertIsNone(look_at_grammar(UPPER))
        for told in (setting(), setting(rule="later"), setting(carrying=(("way",), "len", "body", None)), setting(sort=("no", "such", "path")),
                     setting(lower=UPPER, carrying=(("act",), "id", "key", None)), setting(sort=("abcdefgh",) * 9), setting(ends=(TELLER, TELLER))):
            self.assertIsNone(look_at_setting(told))
            self.assertIsNone(look_at_setting(thing=told))

    def test_the_order_of_the_parts_does_not_count(self):
        self.assertIsNone(look_at_setting(dict(reversed(list(setting().items())))))

    def test_each_part_otherwise(self):
        for part in PARTS:
            for thing in BAD[part]:
                self.refused(setting(**{part: thing}), part)

    def test_two_wrong_at_once(self):
        for first, part in enumerate(PARTS):
            for other in PARTS[first + 1:]:
                self.refused(setting(**{other: BAD[other][0], part: BAD[part][0]}), part)

    def test_a_carrying_of_the_other_grammar(self):
        self.refused(setting(lower=UPPER), "carrying")
        self.refused(setting(carrying=(("act",), "id", "key", None)), "carrying")

    def test_no_dict_of_just_these(self):
        for part in PARTS:
            told = setting(upper=None)
            del told[part]
            self.refused(told, None)
            told["more"] = 5
            self.refused(told, None)
        for more in ("more", 5, None, "Lower", ("lower",)):
            self.refused(setting(lower=None) | {more: 5}, None)
        for thing in (None, True, 5, "setting", (), [], {}, list(setting()), tuple(setting().items()), set(PARTS), tuple(setting().values())):
            self.refused(thing, None)


class Lots(unittest.TestCase):
    def refused(self, thing, number):
        for call in (look_at_lot, lambda lot: sheet_of(setting(), lot)):
            with self.assertRaises(NoLetter) as caught:
                call(thing)
            self.assertEqual(caught.exception.number, number, thing)

    def test_lots(self):
        for lot in ([], [(0, 0, ())], [(1, 1, (0, 255))], [(0, 1, (5,)), (1, 0, (5,))] * 50):
            self.assertIsNone(look_at_lot(lot))
            self.assertIsNone(look_at_lot(thing=lot))

    def test_catches_that_are_none(self):
        good = (0, 1, (5, 6))
        for bad in NO_CATCHES:
            for number in (0, 1, 3):
                self.refused([good] * number + [bad, bad, good], number)

    def test_no_list(self):
        for thing in (None, True, 5, "lot", (), ((0, 0, ()),), {}, {0: (0, 0, ())}, set()):
            self.refused(thing, None)

    def test_the_setting_goes_first(self):
        with self.assertRaises(NoSetting):
            sheet_of(None, None)
        with self.assertRaises(NoSetting):
            sheet_of(setting(ends=None), [None])


def bare(letter, some):
    """The rows of a letter of which only the spreads are told."""
    return [(letter,) + spread + (None, None, None) for spread in spreads_of(LOWER, some)]


def rows_of(letter, some, *parts):
    """The rows of a segment whose body is parted so: tuples (begin, end, stream, upper, step), begin and end within it."""
    rows = bare(letter, some)
    at = [number for number, row in enumerate(rows) if row[3] == ("way", "body")][0]
    body = rows[at]
    told = [(letter, body[1] + begin, body[1] + end, ("way", "body"), "bytes", body[5][begin:end], stream, upper, step)
            for begin, end, stream, upper, step in parts]
    return rows[:at] + told + rows[at + 1:]


ACT = ("act",)


class Sheets(unittest.TestCase):
    def so(self, lot, *rows, **otherwise):
        told = setting(**otherwise)
        ahead = (copy.deepcopy(told), copy.deepcopy(lot))
        wanted = sum([list(some) for some in rows], [])
        self.assertEqual(sheet_of(told, lot), wanted)
        self.assertEqual(sheet_of(setting=told, lot=lot), wanted)
        self.assertEqual(slow_sheet(told, lot), wanted)
        self.assertEqual((told, lot), ahead)

    def test_an_empty_lot(self):
        self.so([])

    def test_letters_that_carry_nothing(self):
        letters = [(), (2, 65, 66, 0), (2, 65), (9, 1, 2), (12,), (1, 0, 0, 0, 3, 7, 7), (1, 2, 0, 0, 0, 0), segment(395, (1,) * 6), (2, 65, 0, 9)]
        self.so([(0, number % 2, some) for number, some in enumerate(letters)], *[bare(number, some) for number, some in enumerate(letters)])

    def test_bodies_without_bytes(self):
        some = segment(3, ())
        self.so([(0, 0, some)], bare(0, some))
        self.assertIn((0, 5, 5, ("way", "body"), "bytes", (), None, None, None), sheet_of(setting(), [(0, 0, some)]))

    def test_a_whole_upper_letter_in_one_piece(self):
        some = segment(0, (1, 77))
        self.so([(0, 0, some)], rows_of(0, some, (0, 1, (0, "stands"), (0, ("tag",), "number"), (0, "sure")),
                                        (1, 2, (1, "stands"), (0, ACT + ("id",), "number"), (0, "sure"))))

    def test_a_letter_whose_sum_is_wrong_carries(self):
        some = segment(0, (4,), wrong=1)
        self.assertEqual(bare(0, some)[-1][4:6], ("faulty", "sum"))
        self.so([(0, 0, some)], rows_of(0, some, (0, 1, (0, "stands"), (0, ("tag",), "number"), (0, "sure"))))

    def test_an_upper_letter_of_several_letters(self):
        pieces = [segment(2, (8, 9)), segment(0, (2, 7)), segment(4, (3, 1))]
        step = (0, "sure")
        self.so([(0, 1, some) for some in pieces],
                rows_of(0, pieces[0], (0, 2, (2, "stands"), (0, ACT + ("key",), "bytes"), step)),
                rows_of(1, pieces[1], (0, 1, (0, "stands"), (0, ("tag",), "number"), step), (1, 2, (1, "stands"), (0, ACT + ("id",), "number"), step)),
                rows_of(2, pieces[2], (0, 1, (4, "stands"), (1, ("tag",), "number"), (1, "sure")),
                        (1, 2, (5, "stands"), (1, ACT + ("why",), "number"), (1, "sure"))))

    def test_cut_ones_and_gaps(self):
        pieces = [segment(0, (1, 77, 1)), segment(4, (1, 5)), segment(9, (6,))]
        self.so([(0, 0, some) for some in pieces],
                rows_of(0, pieces[0], (0, 1, (0, "stands"), (0, ("tag",), "number"), (0, "sure")), (1, 2, (1, "stands"), (0, ACT + ("id",), "number"), (0, "sure")),
                        (2, 3, (2, "stands"), None, None)),
                rows_of(1, pieces[1], (0, 2, (4, "stands"), None, None)),
                rows_of(2, pieces[2], (0, 1, (9, "stands"), None, None)))

    def test_a_told_end(self):
        some = segment(0, (2, 7, 8), fin=1)
        self.so([(0, 1, some)], rows_of(0, some, (0, 1, (0, "stands"), (0, ("tag",), "number"), (0, "against")),
                                        (1, 2, (1, "stands"), (0, ACT + ("id",), "number"), (0, "against")),
                                        (2, 3, (2, "stands"), (0, ACT + ("key",), "lacking"), (0, "against"))))
        some = segment(0, (2, 7, 8))
        self.so([(0, 1, some)], rows_of(0, some, (0, 3, (0, "stands"), None, None)))
        pieces = [some, segment(3, (), fin=1)]
        self.assertEqual([row[8] for row in sheet_of(setting(), [(0, 1, one) for one in pieces])][4:7], [(0, "against")] * 3)

    def test_carrying_without_last(self):
        some = segment(0, (2, 7, 8), fin=1)
        self.so([(0, 1, some)], rows_of(0, some, (0, 3, (0, "stands"), None, None)), carrying=(("way",), "off", "body", None))

    def test_several_pieces_at_one_place(self):
        pieces = [segment(0, (1, 7)), segment(1, (9, 4, 4)), segment(0, (1, 7, 3))]
        ask, tag = (0, ACT + ("id",), "number"), (0, ("tag",), "number")
        self.so([(0, 0, some) for some in pieces],
                rows_of(0, pieces[0], (0, 1, (0, "stands"), tag, (0, "sure")), (1, 2, (1, "stands"), ask, (0, "sure"))),
                rows_of(1, pieces[1], (0, 1, (1, "again"), None, None), (1, 2, (2, "stands"), (1, ("tag",), "number"), (1, "sure")),
                        (2, 3, (3, "stands"), (2, ("tag",), "number"), (2, "sure"))),
                rows_of(2, pieces[2], (0, 3, (0, "again"), None, None)))
        self.so([(0, 0, some) for some in pieces],
                rows_of(0, pieces[0], (0, 2, (0, "again"), None, None)),
                rows_of(1, pieces[1], (0, 2, (1, "again"), None, None), (2, 3, (3, "stands"), (1, ACT + ("why",), "number"), (1, "against"))),
                rows_of(2, pieces[2], (0, 1, (0, "stands"), tag, (0, "sure")), (1, 2, (1, "stands"), ask, (0, "sure")),
                        (2, 3, (2, "stands"), (1, ("tag",), "number"), (1, "against"))), rule="later")

    def test_two_taps(self):
        one, other = segment(0, (1, 7)), segment(0, (1, 8))
        ask = [(0, 1, (0, "stands"), (0, ("tag",), "number"), (0, "sure")), (1, 2, (1, "stands"), (0, ACT + ("id",), "number"), (0, "sure"))]
        again = (0, 2, (0, "again"), None, None)
        for lot, first in (([(1, 0, one), (0, 0, other)], 1), ([(0, 0, one), (1, 0, other)], 0), ([(1, 0, one), (1, 0, other)], 0)):
            for rule, stands in (("first", first), ("later", 1 - first)):
                rows = [rows_of(number, lot[number][2], *(ask if number == stands else [again])) for number in (0, 1)]
                self.so(lot, *rows, rule=rule)

    def test_sides_do_not_mix(self):
        some = segment(0, (1, 7))
        rows = sheet_of(setting(), [(0, 0, some), (0, 1, some)])
        self.assertEqual([row[6] for row in rows if row[6]], [(0, "stands"), (1, "stands")] * 2)

    def test_not_parted_elsewhere(self):
        """Two letters of one sort one behind the other, a spread over two pieces, a piece over two letters."""
        pieces = [segment(0, (2, 1, 8)), segment(3, (9, 2, 1, 8, 9))]
        told = [(row[1:3], row[5], row[6], row[7]) for row in sheet_of(setting(), [(0, 1, some) for some in pieces]) if row[6]]
        key = ACT + ("key",)
        self.assertEqual(told, [
            ((5, 6), (2,), (0, "stands"), (0, ("tag",), "number")), ((6, 7), (1,), (1, "stands"), (0, ACT + ("id",), "number")),
            ((7, 8), (8,), (2, "stands"), (0, key, "bytes")),
            ((5, 6), (9,), (3, "stands"), (0, key, "bytes")), ((6, 7), (2,), (4, "stands"), (1, ("tag",), "number")),
            ((7, 8), (1,), (5, "stands"), (1, ACT + ("id",), "number")), ((8, 10), (8, 9), (6, "stands"), (1, key, "bytes"))])

    def test_beyond_four_hundred(self):
        for place, many, carries in ((399, 1, True), (400, 1, False), (341, 60, False), (340, 60, True)):
            some = segment(place, (7,) * many)
            self.so([(0, 0, some)], rows_of(0, some, (0, many, (place, "stands"), None, None)) if carries else bare(0, some))


# Both ends may say anything, from one place or from two, so that little is sure.
LOOSE = ((("a", "b"), (("a", "says", "ask", "a"), ("a", "says", "none", "a"), ("a", "says", "none", "b"), ("b", "says", "none", "a"), ("a", "says", "thanks", "b"),
                       ("b", "hears", "no", "b"), ("a", "hears", "no", "a"), ("a", "hears", "yes", "a"))),
         (("a", "b"), (("a", "hears", "ask", "a"), ("a", "hears", "none", "a"), ("a", "hears", "none", "b"), ("b", "hears", "none", "b"), ("b", "hears", "none", "a"),
                       ("a", "hears", "thanks", "a"), ("a", "says", "no", "a"), ("a", "says", "yes", "b"), ("b", "says", "yes", "b"))))


def upper_steps(lot, **otherwise):
    """The steps of a sheet by (side, number of the upper letter)."""
    told = {}
    for row in sheet_of(setting(**otherwise), lot):
        if row[7]:
            told.setdefault((lot[row[0]][1], row[7][0]), set()).add(row[8])
    return {which: steps.pop() for which, steps in told.items() if len(steps) == 1}


class Steps(unittest.TestCase):
    def test_in_the_order_of_catching(self):
        lot = [(0, 0, segment(0, (1, 7))), (0, 1, segment(0, (2, 7, 8, 9))), (0, 0, segment(2, (4,))), (0, 0, segment(3, (1, 7))), (0, 1, segment(4, (3, 1)))]
        self.assertEqual(upper_steps(lot), {(0, 0): (0, "sure"), (1, 0): (1, "sure"), (0, 1): (2, "sure"), (0, 2): (3, "sure"), (1, 1): (4, "sure")})

    def test_caught_with_the_last_of_its_letters(self):
        lot = [(0, 0, segment(0, (1,))), (0, 1, segment(0, (3, 5))), (0, 0, segment(1, (7,)))]
        self.assertEqual(upper_steps(lot), {(0, 0): (1, "sure"), (1, 0): (0, "sure")})

    def test_the_stream_from_0_counts_not_the_letter_alone(self):
        lot = [(0, 0, segment(2, (4,))), (0, 1, segment(0, (3, 5))), (0, 0, segment(0, (1, 7)))]
        self.assertEqual({which: step[0] for which, step in upper_steps(lot).items()}, {(1, 0): 0, (0, 0): 1, (0, 1): 2})

    def test_a_piece_that_stands_not_does_not_count(self):
        lot = [(0, 0, segment(0, (1, 7))), (0, 1, segment(0, (3, 5))), (0, 0, segment(0, (1, 7)))]
        self.assertEqual({which: step[0] for which, step in upper_steps(lot).items()}, {(0, 0): 0, (1, 0): 1})
        self.assertEqual({which: step[0] for which, step in upper_steps(lot, rule="later").items()}, {(0, 0): 1, (1, 0): 0})

    def test_by_taps_and_by_order(self):
        lot = [(1, 0, segment(0, (1, 7))), (0, 1, segment(0, (3, 5))), (0, 0, segment(0, (1, 7)))]
        self.assertEqual({which: step[0] for which, step in upper_steps(lot).items()}, {(0, 0): 1, (1, 0): 0})

    def test_several_by_one_letter_by_places(self):
        lot = [(0, 1, segment(0, (3, 5, 3, 6))), (0, 0, segment(2, (4, 1, 9))), (0, 0, segment(0, (1, 7)))]
        self.assertEqual({which: step[0] for which, step in upper_steps(lot).items()}, {(1, 0): 0, (1, 1): 1, (0, 0): 2, (0, 1): 3, (0, 2): 4})

    def test_an_empty_piece_that_tells_the_end_is_none_of_those(self):
        lot = [(0, 0, segment(0, (1,))), (0, 1, segment(0, (3, 5))), (0, 0, segment(1, (), fin=1))]
        self.assertEqual({which: step[0] for which, step in upper_steps(lot).items()}, {(0, 0): 0, (1, 0): 1})

    def test_sure_possible_against(self):
        lot = [(0, 0, segment(0, (4, 1, 7))), (0, 1, segment(0, (3, 5))), (0, 0, segment(3, (4,)))]
        self.assertEqual(upper_steps(lot), {(0, 0): (0, "sure"), (0, 1): (1, "sure"), (1, 0): (2, "sure"), (0, 2): (3, "sure")})
        lot = [(0, 0, segment(0, (1, 7))), (0, 0, segment(2, (6, 8))), (0, 1, segment(0, (3, 5)))]
        self.assertEqual(upper_steps(lot), {(0, 0): (0, "sure"), (0, 1): (1, "against"), (1, 0): (2, "against")})
        self.assertEqual(upper_steps([(0, 0, segment(0, (6, 8)))], ends=LOOSE, sort=("act", "none")), {(0, 0): (0, "possible")})

    def test_more_than_sixty(self):
        lot = [(0, 0, segment(0, (4,) * 59)), (0, 1, segment(0, (3, 5) * 2)), (0, 0, segment(59, (4, 4)))]
        told = {}
        for row in sheet_of(setting(), lot):
            if row[7]:
                told[lot[row[0]][1], row[7][0]] = row[8]
        self.assertEqual(told[0, 0][0], 0)
        self.assertEqual(told[0, 58][0], 58)
        self.assertEqual(told[1, 0][0], 59)
        self.assertEqual([told[1, 1], told[0, 59], told[0, 60]], [None, None, None])

    def test_sixty_one_of_one_letter(self):
        lot = [(0, 0, segment(0, (4,) * 60)), (0, 0, segment(60, (4,)))]
        told = [row[8] and row[8][0] for row in sheet_of(setting(), lot) if row[7]]
        self.assertEqual(told, list(range(60)) + [None])


class Sorts(unittest.TestCase):
    # What is said of a sort is heard, and each one comes to a place of its own.
    WORDS = ("ask", "yes", "no", "thanks", "wrap", "deep", "none")

    def sort_of(self, some, sort, fin=0):
        """The sort that a letter has: the one end says nothing else, so that all others are against."""
        found = []
        for word in self.WORDS:
            ends = ((("a",), (("a", "says", word, "a"),)), (("b",), (("b", "hears", word, "b"),)))
            rows = sheet_of(setting(ends=ends, sort=sort), [(0, 0, segment(0, some, fin=fin))])
            steps = {row[8] for row in rows if row[7] and row[7][0] == 0}
            self.assertEqual(len(steps), 1)
            if steps == {(0, "sure")}:
                found.append(word)
        self.assertEqual(len(found), 1)
        return found[0]

    def test_by_a_path(self):
        for some, word in (((1, 7), "ask"), ((2, 7, 8, 9), "yes"), ((3, 5), "no"), ((4,), "thanks"), ((5, 3, 7, 5, 5), "wrap"), ((6, 8), "deep")):
            self.assertEqual(self.sort_of(some, ("act",)), word)

    def test_within_choices_and_carried_rooms(self):
        self.assertEqual(self.sort_of((5, 3, 7, 5, 5), ("act", "room", "core")), "no")
        self.assertEqual(self.sort_of((5, 1, 8), ("act", "room", "core")), "thanks")
        self.assertEqual(self.sort_of((6, 7, 5), ("act", "core")), "no")
        self.assertEqual(self.sort_of((6, 8), ("act", "core")), "thanks")

    def test_none_where_the_path_leads_nowhere(self):
        for sort in (("nought",), ("act", "act"), ("act", "nought"), ("act", "room", "nought"), ("act", "core", "core"), ("nought", "act"), ("act", "core", "act")):
            self.assertEqual(self.sort_of((5, 3, 7, 5, 5), sort), "none")
            self.assertEqual(self.sort_of((6, 8), sort), "none")

    def test_none_where_it_is_no_choice(self):
        for sort in (("tag",), ("act", "room"), ("act", "len"), ("act", "kind"), ("act", "id"), ("tag", "act")):
            self.assertEqual(self.sort_of((5, 3, 7, 5, 5), sort), "none")
            self.assertEqual(self.sort_of((6, 8), sort), "none")
            self.assertEqual(self.sort_of((1, 7), sort), "none")

    def test_none_where_it_is_in_another_kind(self):
        self.assertEqual(self.sort_of((1, 7), ("act", "core")), "none")
        self.assertEqual(self.sort_of((6, 8), ("act", "room", "core")), "none")

    def test_none_where_the_letter_is_not_good(self):
        self.assertEqual(self.sort_of((2, 7, 8), ("act",), fin=1), "none")
        self.assertEqual(self.sort_of((3, 10), ("act",), fin=1), "none")
        self.assertEqual(self.sort_of((5, 2, 7, 10), ("act",)), "none")
        self.assertEqual(self.sort_of((5, 0), ("act",)), "none")

    def test_none_where_the_choice_is_not_read(self):
        self.assertEqual(self.sort_of((0, 7), ("act",), fin=1), "none")
        self.assertEqual(self.sort_of((5, 2, 99, 1), ("act", "room", "core")), "none")
        self.assertEqual(self.sort_of((5, 2, 99, 1), ("act",)), "wrap")

    def test_unknown_spreads_elsewhere_do_not_count(self):
        self.assertEqual(self.sort_of((5, 3, 8, 1, 1), ("act", "room", "core")), "thanks")


class Drawn(unittest.TestCase):
    def test_as_by_the_slow_way(self):
        chance = random.Random(260)
        many = {"again": 0, "sure": 0, "possible": 0, "against": 0, "parted": 0}
        for _ in range(250):
            lot = draw_lot(chance)
            told = setting(rule=chance.choice(("first", "later")), sort=chance.choice((("act",), ("act", "core"), ("act", "room", "core"))),
                           ends=chance.choice(((ASKER, TELLER), (ASKER, TELLER), LOOSE)),
                           carrying=(("way",), "off", "body", chance.choice(("fin", "fin", None))))
            rows = sheet_of(told, lot)
            self.assertEqual(rows, slow_sheet(told, lot))
            for row in rows:
                many["again"] += row[6] is not None and row[6][1] == "again"
                many["parted"] += row[6] is not None and row[2] - row[1] < lot[row[0]][2][4]
                if row[8]:
                    many[row[8][1]] += 1
            self.each_byte_once(rows, lot)
        self.assertGreater(min(many.values()), 20, many)

    def each_byte_once(self, rows, lot):
        places = [(row[0], byte) for row in rows for byte in range(row[1], row[2])]
        self.assertEqual(places, [(letter, byte) for letter, (_, _, some) in enumerate(lot) for byte in range(len(some))])

    def test_ends_exchanged_and_names_called_otherwise(self):
        chance = random.Random(261)
        for _ in range(80):
            lot = draw_lot(chance)
            told = setting(rule=chance.choice(("first", "later")), sort=chance.choice((("act",), ("act", "core"))), ends=chance.choice(((ASKER, TELLER), LOOSE)))
            other = setting_called(told)
            named = [row_called(row) for row in sheet_of(told, lot)]
            self.assertEqual(sheet_of(other, lot), named)
            other["ends"] = other["ends"][::-1]
            self.assertEqual(sheet_of(other, [(tap, 1 - side, some) for tap, side, some in lot]), named)

    def test_told_anew(self):
        lot = draw_lot(random.Random(262))
        rows = sheet_of(setting(), lot)
        wanted = list(rows)
        rows.clear()
        self.assertEqual(sheet_of(setting(), lot), wanted)


def grammar_called(grammar):
    return tuple((called(name), tuple(map(field_called, fields))) for name, fields in grammar)


def end_called(end):
    """Its sorts so that `none` stays, as it is told where there is no sort."""
    return (tuple(map(called, end[0])), tuple((called(begin), word, sort if sort == "none" else called(sort), called(to)) for begin, word, sort, to in end[1]))


def setting_called(told):
    path, place, body, last = told["carrying"]
    return {
        "lower": grammar_called(told["lower"]),
        "carrying": (tuple(map(called, path)), called(place), called(body), last and called(last)),
        "rule": told["rule"],
        "upper": grammar_called(told["upper"]),
        "sort": tuple(map(called, told["sort"])),
        "ends": tuple(map(end_called, told["ends"])),
    }


def path_called(path):
    return tuple(called(step) if isinstance(step, str) else step for step in path)


def row_called(row):
    upper = row[7] and (row[7][0], path_called(row[7][1]), row[7][2])
    return row[:3] + (path_called(row[3]),) + row[4:7] + (upper, row[8])


class Places(unittest.TestCase):
    def test_stand_in_their_file(self):
        for name in ("look_at_setting", "look_at_lot", "sheet_of"):
            self.assertEqual(getattr(sheet, name).__module__, "letterbench.sheet")


if __name__ == "__main__":
    unittest.main()
