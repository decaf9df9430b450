"""Promises 1 and 3 over the whole program: a talk caught whole is told whole, what is written is read back and does alike."""

import random
import unittest

from sheetmaker import ASKER, CARRYING, LOWER, TELLER, UPPER, cut_in, draw_lot, segment, setting
from test_filters_drawn import draw_filter, draw_leaf, paths_of
from test_losses import drawn
from test_sheet import setting_called
from test_talks import draw_ends, draw_walk
from letterbench.book import Book
from letterbench.compiling import rows_for
from letterbench.desk import Desk
from letterbench.filters import takes
from letterbench.judge import bytes_at, is_sheet, judged, row_at, upper_at_step
from letterbench.reading import fields_in, spreads_of
from letterbench.relations import found_in, holds
from letterbench.replay import replayed
from letterbench.rows import run
from letterbench.sheet import sheet_of
from letterbench.streams import together
from letterbench.talks import lets_table, talk_of, way_of
from letterbench.texts import (
    read_end, read_filter, read_grammar, read_lot, read_rows, show_end, show_filter, show_grammar, show_lot, show_rows,
)
from letterbench.upper import pieces_of, upper_of
from letterbench.writing import written

ENDS = (ASKER, TELLER)
TAGS = {"ask": 1, "yes": 2, "no": 3, "thanks": 4}


def letter_of(chance, sort, ids):
    """An upper letter of this sort: the answers have the id that was asked."""
    if sort == "ask":
        ids.append(chance.randrange(256))
    inner = {"ask": {"id": ids[-1]}, "yes": {"id": ids[-1], "key": (chance.randrange(256), ids[-1])}, "no": {"why": 7}, "thanks": {"bare": ()}}[sort]
    return written(UPPER, {"tag": TAGS[sort], "act": (sort, inner)})


def draw_talk(chance, many):
    """A talk's steps, its upper letters by sides, and the lot of all that was caught of it, piece by piece in order."""
    walk = draw_walk(chance, ENDS, many)
    ids = []
    streams = {0: [], 1: []}
    begins = {0: 0, 1: 0}
    lot = []
    for side, sort in walk:
        some = letter_of(chance, sort, ids)
        for place, body in cut_in(chance, some):
            lot.append((chance.choice((0, 1)), side, segment(begins[side] + place, body)))
        begins[side] += len(some)
        streams[side].append(some)
    return walk, streams, lot


class CaughtWhole(unittest.TestCase):
    def test_told_whole(self):
        chance = random.Random(310)
        for _ in range(60):
            walk, streams, lot = draw_talk(chance, chance.randint(1, 20))
            told = setting(rule=chance.choice(("first", "later")))
            rows = sheet_of(told, lot)
            self.assertIs(is_sheet(told, lot, rows), True)
            counts = {0: 0, 1: 0}
            for step, (side, sort) in enumerate(walk):
                self.assertEqual(upper_at_step(rows, lot, step), (side, counts[side]))
                found = bytes_at(rows, lot, side, counts[side], ())
                some = tuple(lot[letter][2][byte] for letter, byte in found)
                self.assertEqual(some, streams[side][counts[side]])
                self.assertEqual(fields_in(UPPER, some)["act"][0], sort)
                for letter, byte in found:
                    self.assertEqual(row_at(rows, letter, byte)[8], (step, "sure"))
                counts[side] += 1
            self.assertEqual({row[6][1] for row in rows if row[6]}, {"stands"})
            self.assertTrue(all(row[7] for row in rows if row[6]))
            word, many, table = talk_of(ENDS, walk)
            self.assertEqual((word, many), ("least", 0))
            self.assertIs(lets_table(ENDS, walk, table), True)
            self.assertEqual([(side, sort) for side, sort, _ in way_of(ENDS, walk)], walk)

    def test_in_whatever_order_and_doubled(self):
        """The streams and upper letters are those that were sent; only when each was caught is told otherwise."""
        chance = random.Random(311)
        for _ in range(60):
            _, streams, lot = draw_talk(chance, chance.randint(1, 12))
            mixed = lot + [chance.choice(lot) for _ in range(chance.randint(0, 5))]
            chance.shuffle(mixed)
            rows = sheet_of(setting(), mixed)
            for side in (0, 1):
                some = sum(streams[side], ())
                pieces = [piece for number, _, piece in pieces_of(LOWER, CARRYING, [letter for _, _, letter in mixed]) if mixed[number][1] == side]
                told = together(pieces)
                self.assertEqual((told["runs"], told["gaps"], told["against"]), ([(0, some)] if some else [], [], []))
                letters, left = upper_of(UPPER, told["runs"])
                self.assertEqual(([some[begin:end] for begin, end, _ in letters], left), (streams[side], []))
                for number, letter in enumerate(streams[side]):
                    found = bytes_at(rows, mixed, side, number, ())
                    self.assertEqual(tuple(mixed[at][2][byte] for at, byte in found), letter)

    def test_with_losses_the_least_is_told(self):
        chance = random.Random(312)
        for _ in range(100):
            walk = draw_walk(chance, ENDS, chance.randint(1, 15))
            kept = [step for step in walk if chance.random() < 0.7]
            word, many, _ = talk_of(ENDS, kept)
            self.assertEqual(word, "least")
            self.assertLessEqual(many, len(walk) - len(kept))

    def test_relations_and_replays_of_what_was_caught(self):
        chance = random.Random(313)
        talks = []
        for _ in range(6):
            walk, streams, _ = draw_talk(chance, 6)
            counts = {0: 0, 1: 0}
            talk = []
            for side, _ in walk:
                fields = fields_in(UPPER, streams[side][counts[side]])
                talk.append((side, {"tag": fields["tag"]} | {word: worth for word, worth in fields["act"][1].items() if isinstance(worth, int)}))
                counts[side] += 1
            talks.append(talk)
        found = found_in(talks)
        self.assertTrue(found)
        for talk in talks:
            self.assertTrue(all(holds(relation, talk) for relation in found))
            for side in (0, 1):
                told = replayed(talk, found, side, lambda so_far, caught=talk: caught[len(so_far)][1])
                self.assertEqual(told, (talk, None))


class ReadBack(unittest.TestCase):
    def test_grammars_and_filters_do_alike(self):
        chance = random.Random(314)
        for grammar, letter, _ in drawn(315, 60):
            other = read_grammar(show_grammar(grammar))
            for some in (letter, letter[:-1], letter + (5,)):
                self.assertEqual(spreads_of(other, some), spreads_of(grammar, some))
            numbers, choices = paths_of(grammar)
            wish = draw_filter(chance, lambda: draw_leaf(chance, grammar, numbers, choices), 3, 6)
            other_wish = read_filter(other, show_filter(grammar, wish))
            rows = read_rows(show_rows(rows_for(grammar, wish)))
            for some in (letter, letter[:len(letter) // 2], (0,) * 20, ()):
                self.assertEqual(takes(other, other_wish, some), takes(grammar, wish, some))
                self.assertEqual(run(rows, some)[0], takes(grammar, wish, some))

    def test_ends_and_lots_do_alike(self):
        chance = random.Random(316)
        for _ in range(60):
            ends = draw_ends(chance)
            other = tuple(read_end(show_end(end)) for end in ends)
            walk = draw_walk(chance, ends, 5)[::2]
            self.assertEqual(talk_of(other, walk), talk_of(ends, walk))
            lot = draw_lot(chance)
            self.assertEqual(sheet_of(setting(), read_lot(show_lot(lot))), sheet_of(setting(), lot))

    def test_a_whole_setting(self):
        told = setting(lower=read_grammar(show_grammar(LOWER)), upper=read_grammar(show_grammar(UPPER)), ends=tuple(read_end(show_end(end)) for end in ENDS))
        self.assertEqual(told, setting())


class ByADesk(unittest.TestCase):
    def test_as_the_functions_tell(self):
        chance = random.Random(317)
        one = Desk()
        texts = {"low": show_grammar(LOWER), "up": show_grammar(UPPER), "ask": show_end(ASKER), "tell": show_end(TELLER)}
        for name, text in texts.items():
            word = "grammar" if text.startswith("kind") else "end"
            self.assertEqual(one.say(f"{word} {name} " + text.replace("\n", "; ")), "ok")
        for _ in range(10):
            walk, _, lot = draw_talk(chance, 8)
            one.say("book 200 first low up ask tell way off body fin act")
            for row in show_lot(lot).split("\n") if lot else []:
                one.say("catch " + row)
            steps = set()
            for letter in range(len(lot)):
                steps |= {spread.split(" ")[6] for spread in one.say(f"sheet {letter}").split("; ")}
            self.assertEqual(steps - {"-"}, {f"{step}:sure" for step in range(len(walk))})
            catch = ",".join(f"{side}:{sort}" for side, sort in walk) or "-"
            self.assertEqual(one.say(f"least ask tell {catch}"), "least 0")


class CalledOtherwise(unittest.TestCase):
    def test_judged_the_same(self):
        chance = random.Random(318)
        for _ in range(40):
            lot = draw_lot(chance)
            told = setting()
            other = setting_called(told)
            rows, named = sheet_of(told, lot), sheet_of(other, lot)
            self.assertEqual([row[:3] + row[4:7] + row[8:] for row in rows], [row[:3] + row[4:7] + row[8:] for row in named])
            if rows:
                at = chance.randrange(len(rows))
                bent, other_bent = list(rows), list(named)
                bent[at] = bent[at][:5] + ((),) + bent[at][6:]
                other_bent[at] = other_bent[at][:5] + ((),) + other_bent[at][6:]
                self.assertEqual(judged(told, lot, bent), judged(other, lot, other_bent))

    def test_turned_the_same_and_ends_exchanged(self):
        chance = random.Random(319)
        for _ in range(40):
            lot = draw_lot(chance)
            one, other = Book(setting(), room=9), Book(setting_called(setting()) | {"ends": setting_called(setting())["ends"][::-1]}, room=9)
            one.take(lot)
            other.take([(tap, 1 - side, some) for tap, side, some in lot])
            self.assertEqual(one.gone(), other.gone())
            self.assertEqual([one.pieces_of_side(side) for side in (0, 1)], [other.pieces_of_side(side) for side in (1, 0)])
            for part, thing in (("rule", "later"), ("carrying", CARRYING[:3] + (None,)), ("sort", ("act", "core"))):
                turned = setting_called(setting(**{part: thing}))[part]
                self.assertEqual(one.turn(part, thing), other.turn(part, turned))


if __name__ == "__main__":
    unittest.main()
