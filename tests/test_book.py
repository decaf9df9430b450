"""Promises 27 and 3 (j): a book that takes catches in portions."""

import copy
import random
import unittest

from lettermaker import own_sum
from sheetmaker import ASKER, CARRYING, LOWER, TELLER, UPPER, draw_lot, segment, setting, slow_caught, slow_sides
from test_sheet import BAD, LOOSE, NO_CATCHES, PARTS
from letterbench import book
from letterbench.book import Book
from letterbench.errors import NoLetter, NoNumber, NoSetting, Shut
from letterbench.sheet import sheet_of

LOT = [
    (0, 0, segment(0, (1, 77))),
    (0, 1, segment(0, (2, 1, 8))),
    (1, 1, segment(0, (3, 1))),
    (0, 0, (2, 65, 66, 0)),
    (0, 1, segment(3, (9,))),
    (0, 0, segment(2, (4,))),
]


def sum_of(lot):
    """The sum of the bytes of these letters."""
    high, low = own_sum("mixed", sum([some for _, _, some in lot], ()))
    return high * 256 + low


def filled(lot=LOT, room=100, **otherwise):
    one = Book(setting(**otherwise), room=room)
    one.take(list(lot))
    return one


class Made(unittest.TestCase):
    def test_settings(self):
        for part in PARTS:
            for thing in BAD[part]:
                for room in (100, None):
                    with self.assertRaises(NoSetting) as caught:
                        Book(setting(**{part: thing}), room=room)
                    self.assertEqual(caught.exception.part, part)
        for thing in (None, True, 5, (), [], {}):
            with self.assertRaises(NoSetting) as caught:
                Book(thing, room=0)
            self.assertIsNone(caught.exception.part)

    def test_rooms(self):
        for room in (1, 2, 199, 200):
            self.assertEqual(Book(setting(), room=room).space(), room)
        self.assertEqual(Book(setting=setting()).space(), 100)
        for room in (0, -1, 201, 10 ** 40, True, False, None, "5", (5,), [], {}):
            with self.assertRaises(NoNumber):
                Book(setting(), room=room)
        with self.assertRaises(TypeError):
            Book(setting(), 5)

    def test_told_as_they_stand(self):
        told = setting()
        one = Book(told, room=3)
        told["rule"] = "later"
        self.assertEqual(one.settings(), setting())
        one.settings()["rule"] = None
        one.settings().clear()
        one.take(LOT)
        self.assertEqual((one.settings(), one.space()), (setting(), 3))

    def test_a_new_one(self):
        one = Book(setting())
        self.assertEqual((len(one), one.held(), one.sheet(), one.log(), one.gone()), (0, [], [], [], (0, 5381)))
        self.assertEqual([one.pieces_of_side(side) for side in (0, 1)], [[], []])


class Takes(unittest.TestCase):
    def test_portions(self):
        one = Book(setting())
        self.assertIsNone(one.take([]))
        self.assertEqual(one, Book(setting()))
        one.take(LOT[:1])
        one.take(catches=LOT[1:5])
        one.take(LOT[5:])
        self.assertEqual((len(one), one.held(), one.gone()), (6, LOT, (0, 5381)))
        self.assertEqual(one.sheet(), sheet_of(setting(), LOT))
        self.assertEqual(one.log(), ["open", "shut"] * 4)

    def test_the_eldest_go(self):
        for room in range(1, 8):
            one = Book(setting(), room=room)
            for at, catch in enumerate(LOT):
                one.take([catch])
                gone = max(0, at + 1 - room)
                self.assertEqual(one.held(), LOT[gone:at + 1])
                self.assertEqual(one.gone(), (gone, sum_of(LOT[:gone])))
                self.assertEqual(one.sheet(), sheet_of(setting(), LOT[gone:at + 1]))
                self.assertEqual(len(one), min(room, at + 1))

    def test_a_portion_greater_than_the_room(self):
        one = filled(LOT[:1], room=2)
        one.take(LOT[1:])
        self.assertEqual((one.held(), one.gone()), (LOT[4:], (4, sum_of(LOT[:4]))))
        self.assertEqual(one.sheet(), sheet_of(setting(), LOT[4:]))

    def test_numbered_from_nought(self):
        one = filled(room=2)
        self.assertEqual({row[0] for row in one.sheet()}, {0, 1})

    def test_at_the_greatest_room(self):
        lot = [(0, 0, (2, number, 0)) for number in range(1, 202)]
        one = filled(lot, room=200)
        self.assertEqual((len(one), one.gone()), (200, (1, sum_of(lot[:1]))))

    def test_refused_portions_change_nothing(self):
        one = filled(room=7)
        ahead = one.twin()
        for bad in NO_CATCHES:
            with self.assertRaises(NoLetter) as caught:
                one.take(LOT[:3] + [bad, bad])
            self.assertEqual(caught.exception.number, 3)
        for thing in (None, True, 5, (), tuple(LOT), {}, "lot"):
            with self.assertRaises(NoLetter) as caught:
                one.take(thing, watcher=lambda many: self.fail())
            self.assertIsNone(caught.exception.number)
        self.assertEqual((one, one.log(), one.held()), (ahead, ahead.log(), LOT))

    def test_the_list_handed_in_stays_and_is_not_kept(self):
        lot = list(LOT)
        one = Book(setting(), room=2)
        one.take(lot)
        self.assertEqual(lot, LOT)
        lot.clear()
        self.assertEqual(one.held(), LOT[-2:])

    def test_what_is_told_is_the_askers_own(self):
        one = filled()
        wanted = (one.sheet(), one.held(), one.log(), one.pieces_of_side(0))
        for told in (one.sheet(), one.held(), one.log(), one.pieces_of_side(0), one.settings()):
            told.clear()
        self.assertEqual((one.sheet(), one.held(), one.log(), one.pieces_of_side(0)), wanted)
        earlier = one.log()
        one.take([])
        self.assertEqual((earlier, one.log()), (["open", "shut"], ["open", "shut"] * 2))


class Pieces(unittest.TestCase):
    def test_in_the_order_in_which_they_are_put_together(self):
        lot = [(1, 0, segment(0, (1,))), (0, 1, segment(9, (9,))), (0, 0, segment(2, (2,))), (1, 0, segment(1, (3,), fin=1)), (0, 0, (2, 0)), (0, 0, segment(4, ()))]
        one = filled(lot)
        self.assertEqual(one.pieces_of_side(0), [(2, (2,), False), (4, (), False), (0, (1,), False), (1, (3,), True)])
        self.assertEqual(one.pieces_of_side(side=1), [(9, (9,), False)])

    def test_of_what_is_held(self):
        self.assertEqual(filled(room=2).pieces_of_side(0), [(2, (4,), False)])
        self.assertEqual(filled(room=1).pieces_of_side(1), [])

    def test_no_sides(self):
        for side in (None, True, False, 2, -1, "0", (), [0], 10 ** 40):
            with self.assertRaises(NoNumber):
                filled().pieces_of_side(side)


class Watched(unittest.TestCase):
    def test_called_behind_each_portion(self):
        seen = []
        one = Book(setting(), room=4)
        for portion in ([], LOT[:1], LOT[1:3], [], LOT[3:], LOT):
            one.take(portion, watcher=seen.append)
        self.assertEqual(seen, [0, 1, 3, 3, 4, 4])
        one.take([], watcher=None)
        self.assertEqual(one.log(), ["open", "shut"] * 7)

    def test_what_it_sees(self):
        seen = []
        one = Book(setting(), room=4)

        def watcher(many):
            seen.append((many, len(one), one.held(), one.sheet(), one.log(), one.gone(), one.space(), one.settings(), one.pieces_of_side(0)))

        one.take(LOT, watcher=watcher)
        self.assertEqual(seen[0], (4, 4, LOT[2:], sheet_of(setting(), LOT[2:]), ["open"], (2, sum_of(LOT[:2])), 4, setting(), [(2, (4,), False)]))
        self.assertEqual(one.log(), ["open", "shut"])

    def test_shut_ahead_of_all_else(self):
        one = Book(setting())
        raised = []

        def watcher(_):
            for call in (lambda: one.take([]), lambda: one.take(LOT), lambda: one.take(None), lambda: one.take([None], watcher=5), lambda: one.turn("rule", "later"),
                         lambda: one.turn("rule", "first"), lambda: one.turn(None, None), lambda: one.turn("rule", None)):
                with self.assertRaises(Shut):
                    call()
                raised.append(one.log())

        one.take(LOT, watcher=watcher)
        self.assertEqual(raised, [["open"]] * 8)
        self.assertEqual((one.held(), one.settings(), one.log()), (LOT, setting(), ["open", "shut"]))
        one.take([])
        self.assertEqual(one.turn("rule", "later"), ["streams", "upper", "talk"])

    def test_shut_goes_on(self):
        one = Book(setting())
        for deed in (lambda _: one.take([]), lambda _: one.turn("rule", "later")):
            with self.assertRaises(Shut):
                one.take(LOT[:1], watcher=deed)
        self.assertEqual((len(one), one.log(), one.settings()), (2, ["open", "shut"] * 2, setting()))

    def test_what_it_raises_goes_on_and_the_portion_stays(self):
        one = Book(setting(), room=2)
        for error in (KeyError("x"), NoLetter(5), StopIteration(), Shut("y")):
            def watcher(_, raised=error):
                raise raised

            with self.assertRaises(type(error)) as caught:
                one.take(LOT, watcher=watcher)
            self.assertIs(caught.exception, error)
        self.assertEqual((one.held(), one.gone(), one.log()), (LOT[-2:], (22, sum_of(LOT * 3 + LOT[:4])), ["open", "shut"] * 4))
        one.take([])
        self.assertEqual(one.turn("rule", "first"), [])

    def test_a_twin_made_within_is_open(self):
        one = Book(setting())
        twins = []

        def watcher(_):
            twins.append(one.twin())
            twins[0].take(LOT[:2])
            self.assertEqual(twins[0].turn("sort", ("other",)), ["talk"])
            self.assertEqual(one.settings(), setting())
            with self.assertRaises(Shut):
                one.take([])

        one.take(LOT, watcher=watcher)
        self.assertEqual((one.held(), one.log()), (LOT, ["open", "shut"]))
        self.assertEqual((twins[0].held(), twins[0].log()), (LOT + LOT[:2], ["open", "open", "shut"]))


class Turned(unittest.TestCase):
    def so(self, part, thing, *wanted, lot=LOT, **otherwise):
        one = filled(lot, **otherwise)
        now = one.settings()
        now[part] = thing
        told = one.turn(part, thing)
        self.assertEqual(told, list(wanted))
        self.assertEqual(one.settings(), now)
        self.assertEqual(one.sheet(), sheet_of(now, lot))
        self.assertEqual((one.held(), one.log(), one.gone()), (lot, ["open", "shut"], (0, 5381)))
        told.append(None)
        self.assertEqual(one.turn(part=part, thing=thing), [])

    def test_to_the_same(self):
        for part in PARTS:
            self.so(part, setting()[part])
            self.so(part, copy.deepcopy(setting()[part]))

    def test_lower(self):
        spare = LOWER + (("spare", (("text", "line", 0),)),)
        self.so("lower", spare, "reading")
        self.so("lower", spare, "reading", lot=[])
        bounded = LOWER[:1] + (("seg", (("number", "off", 2, "big", 0, 1),) + LOWER[1][1][1:]),) + LOWER[2:]
        self.so("lower", bounded, "reading", "streams", "upper", "talk")
        self.so("lower", bounded, "reading", lot=LOT[:2])
        # The piece that is lost stands nowhere, so that nothing more turns.
        lot = [(0, 0, segment(0, (1, 77, 5))), (0, 0, segment(2, (5,)))]
        self.so("lower", bounded, "reading", "streams", lot=lot)
        lot = [(0, 0, segment(0, (1, 77))), (0, 0, segment(3, (5,)))]
        self.so("lower", bounded, "reading", "streams", "upper", lot=lot)

    def test_carrying(self):
        self.so("carrying", CARRYING[:3] + (None,))
        self.so("carrying", (("way",), "len", "body", "fin"), "streams", "upper", "talk")
        lot = LOT + [(0, 0, segment(3, (), fin=1))]
        self.so("carrying", CARRYING[:3] + (None,), "streams", "upper", lot=lot)
        lot = LOT[:1] + [(0, 0, segment(2, (2, 7), fin=1))]
        self.so("carrying", CARRYING[:3] + (None,), "streams", "upper", "talk", lot=lot)
        self.so("carrying", CARRYING[:3] + ("spare",), lot=LOT)

    def test_rule(self):
        self.so("rule", "later", "streams", lot=[])
        self.so("rule", "later", "streams", lot=LOT[:2])
        self.so("rule", "later", "streams", "upper", "talk")
        lot = [(0, 0, segment(0, (1, 77))), (0, 0, segment(1, (78,)))]
        self.so("rule", "later", "streams", "upper", lot=lot)
        lot = [(0, 0, segment(0, (1, 77))), (0, 1, segment(0, (3, 1))), (0, 0, segment(1, (77,)))]
        self.so("rule", "later", "streams", "talk", lot=lot)
        lot = [(0, 0, segment(0, (1,), fin=1)), (0, 0, segment(1, (77,), fin=1))]
        self.so("rule", "later", "streams", "upper", lot=lot)
        lot = [(0, 0, segment(0, (2, 7), fin=1)), (0, 0, segment(2, (8,), fin=1))]
        self.so("rule", "later", "streams", "upper", "talk", lot=lot)

    def test_upper(self):
        spare = UPPER + (("spare", (("text", "line", 0),)),)
        self.so("upper", spare, "upper")
        self.so("upper", spare, "upper", lot=[])
        fewer = ((UPPER[0][0], UPPER[0][1][:1] + (UPPER[0][1][1][:3] + (UPPER[0][1][1][3][:1],),)),) + UPPER[1:]
        self.so("upper", fewer, "upper", "talk")
        self.so("upper", LOWER, "upper", "talk")

    def test_sort(self):
        self.so("sort", ("other",), "talk")
        self.so("sort", ("act", "core"), "talk")
        self.so("sort", ("other",), lot=[])
        self.so("sort", ("other",), lot=LOT[3:])
        self.so("sort", ("other",), sort=("act", "act"))

    def test_ends(self):
        self.so("ends", (TELLER, ASKER), "talk")
        self.so("ends", (ASKER, ASKER), "talk", lot=[])
        self.so("ends", LOOSE, "talk")

    def test_refused(self):
        one = filled()
        ahead = one.twin()
        for part in PARTS:
            for thing in BAD[part]:
                with self.assertRaises(NoSetting) as caught:
                    one.turn(part, thing)
                self.assertEqual(caught.exception.part, part)
        with self.assertRaises(NoSetting) as caught:
            one.turn("lower", UPPER)
        self.assertEqual(caught.exception.part, "carrying")
        self.assertEqual(filled(carrying=(("way",), "off", "body", None)).turn("lower", LOWER), [])
        for part in (None, True, 5, "", "Lower", "room", "lowers", ("lower",), ["lower"], {}, b"lower", object()):
            with self.assertRaises(NoSetting) as caught:
                one.turn(part, LOWER)
            self.assertIsNone(caught.exception.part)
        self.assertEqual((one, one.log(), one.settings()), (ahead, ["open", "shut"], setting()))

    def test_what_is_handed_in_may_be_changed_later(self):
        one = filled()
        now = one.settings()
        one.turn("rule", "later")
        self.assertEqual(now, setting())

    def test_drawn_turns(self):
        chance = random.Random(280)
        things = {"carrying": (CARRYING, CARRYING[:3] + (None,), (("way",), "len", "body", None)), "rule": ("first", "later"), "upper": (UPPER, UPPER + (("x", (("text", "t", 0),)),), LOWER),
                  "sort": (("act",), ("act", "core"), ("x",)), "ends": ((ASKER, TELLER), LOOSE)}
        for _ in range(80):
            lot = draw_lot(chance)
            one = filled(lot)
            for _ in range(4):
                part = chance.choice(sorted(things))
                ahead = one.settings()
                told = one.turn(part, chance.choice(things[part]))
                behind = one.settings()
                words = [slow_words(ahead, lot), slow_words(behind, lot)]
                self.assertEqual(told, [word for word in ("reading", "streams", "upper", "talk") if words[0][word] != words[1][word]])


def slow_words(told, lot):
    """What each of the four has to go by."""
    sides = slow_sides(told, lot)
    ordered = [[piece for _, _, piece in pieces] for pieces, _ in sides]
    runs = []
    for pieces in ordered:
        stream = {}
        end = None
        # The one that stands is put in last.
        for place, some, last in pieces if told["rule"] == "later" else pieces[::-1]:
            stream.update({place + at: byte for at, byte in enumerate(some)})
            end = place + len(some) if last else end
        runs.append((sorted(stream.items()), end))
    _, caught = slow_caught(told, sides)
    catch = [(side, sort) for _, side, _, _, sort in caught]
    return {"reading": told["lower"], "streams": (ordered, told["rule"]), "upper": (runs, told["upper"]), "talk": (catch, told["ends"])}


class Objects(unittest.TestCase):
    def test_twins(self):
        one = filled(room=4)
        twin = one.twin()
        self.assertTrue(one == twin)
        self.assertEqual((twin.log(), twin.gone(), twin.held(), twin.settings(), twin.space()), (one.log(), one.gone(), one.held(), one.settings(), 4))
        twin.take(LOT[:1])
        self.assertFalse(one == twin)
        self.assertEqual((one.held(), one.log(), one.gone()[0]), (LOT[2:], ["open", "shut"], 2))
        self.assertEqual((twin.held(), twin.log(), twin.gone()[0]), (LOT[3:] + LOT[:1], ["open", "shut"] * 2, 3))
        one.take(LOT[:1])
        self.assertTrue(one == twin)
        twin.turn("rule", "later")
        self.assertEqual(one.settings(), setting())
        self.assertFalse(one == twin)

    def test_alike(self):
        self.assertTrue(filled() == filled())
        self.assertFalse(filled() != filled())
        self.assertFalse(filled() == filled(LOT[:-1]))
        self.assertFalse(filled() == filled(LOT[::-1]))
        self.assertFalse(filled() == filled(room=99))
        for part, thing in (("rule", "later"), ("sort", ("x",)), ("carrying", CARRYING[:3] + (None,)), ("ends", LOOSE), ("upper", LOWER)):
            self.assertFalse(filled() == filled(**{part: thing}))

    def test_alike_by_what_went(self):
        one, other = filled(LOT, room=1), filled([LOT[0], LOT[-1]], room=1)
        self.assertEqual(one.held(), other.held())
        self.assertFalse(one == other)
        one, other = filled([LOT[0], LOT[-1]], room=1), filled([LOT[1], LOT[-1]], room=1)
        self.assertFalse(one == other)
        # The same bytes went, parted otherwise into letters.
        one, other = filled([(0, 0, (1, 2)), LOT[-1]], room=1), filled([(1, 1, (1,)), (0, 0, (2,)), LOT[-1]], room=1)
        self.assertEqual(one.gone()[1], other.gone()[1])
        self.assertFalse(one == other)

    def test_the_log_does_not_count(self):
        one = filled()
        one.take([])
        self.assertTrue(one == filled())

    def test_beside_other_things(self):
        one = filled()
        for thing in (None, 0, LOT, setting(), (), "book", object()):
            self.assertIs(one == thing, False)
            self.assertIs(one != thing, True)


class Drawn(unittest.TestCase):
    def test_in_whatever_portions(self):
        chance = random.Random(281)
        for _ in range(80):
            lot = draw_lot(chance)
            room = chance.choice((1, 3, 10, 200))
            rule = chance.choice(("first", "later"))
            whole = filled(lot, room=room, rule=rule)
            one = Book(setting(rule=rule), room=room)
            at = 0
            portions = 0
            while at < len(lot):
                many = chance.randint(0, 4)
                one.take(lot[at:at + many])
                at += many
                portions += 1
            self.assertTrue(one == whole)
            self.assertEqual(one.sheet(), whole.sheet())
            self.assertEqual(one.sheet(), sheet_of(setting(rule=rule), lot[-room:]))
            self.assertEqual(one.gone(), (max(0, len(lot) - room), sum_of(lot[:max(0, len(lot) - room)])))
            self.assertEqual(one.log(), ["open", "shut"] * portions)

    def test_what_is_sure_stays_so(self):
        chance = random.Random(282)
        many = 0
        for _ in range(120):
            lot = [(0, side, some) for _, side, some in draw_lot(chance)]
            one = Book(setting(carrying=CARRYING[:3] + (None,), ends=chance.choice(((ASKER, TELLER), LOOSE))), room=200)
            sure = {}
            for catch in lot:
                one.take([catch])
                told = {}
                for row in one.sheet():
                    if row[8]:
                        told[row[8][0]] = (lot[row[0]][1], row[7][0], row[8][1])
                for step, which in sure.items():
                    self.assertEqual(told[step], which)
                sure = {step: which for step, which in told.items() if which[2] == "sure"}
            many += len(sure)
        self.assertGreater(many, 100)


class Places(unittest.TestCase):
    def test_stand_in_their_file(self):
        self.assertEqual(Book.__module__, "letterbench.book")
        self.assertIs(book.Book, Book)
        for name in ("take", "turn", "sheet", "held", "log", "gone", "settings", "space", "pieces_of_side", "twin", "__len__", "__eq__"):
            self.assertIn(name, vars(Book))


if __name__ == "__main__":
    unittest.main()
