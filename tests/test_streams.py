"""Promises 16, 17 and 3 (c): streams put together of pieces, in whatever order, doubled, lost, against one another."""

import copy
import random
import unittest

from letterbench import streams
from letterbench.errors import NoPiece
from letterbench.streams import RULES, Stream, of_two, together

KEYS = ["runs", "gaps", "end", "against", "sources"]


def told(runs=(), gaps=(), end=None, against=(), sources=()):
    return {"runs": list(runs), "gaps": list(gaps), "end": end, "against": list(against), "sources": [list(numbers) for numbers in sources]}


def slowly(pieces, rule):
    """What is told of pieces, byte by byte of all 400 places and beyond."""
    stand = {}
    for number, (place, some, _) in enumerate(pieces):
        for at, byte in enumerate(some, start=place):
            if at not in stand or rule == "later":
                stand[at] = (byte, number)
    answer = told()
    tellers = [number for number, piece in enumerate(pieces) if piece[2]]
    ends = [pieces[number][0] + len(pieces[number][1]) for number in tellers]
    if ends:
        answer["end"] = ends[0] if rule == "first" else ends[-1]
    for at in range(402):
        if at in stand and at - 1 not in stand:
            answer["runs"].append((at, ()))
            answer["sources"].append([])
        if at in stand:
            begin, some = answer["runs"][-1]
            answer["runs"][-1] = (begin, some + (stand[at][0],))
            answer["sources"][-1].append(stand[at][1])
        elif any(later > at for later in stand) or (answer["end"] is not None and at < answer["end"]):
            if answer["gaps"] and answer["gaps"][-1][1] == at:
                answer["gaps"][-1] = (answer["gaps"][-1][0], at + 1)
            else:
                answer["gaps"].append((at, at + 1))
        having = [number for number, (place, some, _) in enumerate(pieces) if place <= at < place + len(some)]
        if len({pieces[number][1][at - pieces[number][0]] for number in having}) > 1:
            answer["against"].append((at, tuple(having)))
    if ends:
        beyond = [number for number, (place, some, _) in enumerate(pieces) if some and place + len(some) > answer["end"]]
        if beyond or len(set(ends)) > 1:
            answer["against"].append(("end", tuple(sorted(set(tellers) | set(beyond)))))
    return answer


class Cases(unittest.TestCase):
    def so(self, pieces, rule="first", **wanted):
        self.assertEqual(together(list(pieces), rule=rule), told(**wanted))
        self.assertEqual(told(**wanted), slowly(list(pieces), rule))


class ByHand(Cases):
    def test_rules(self):
        self.assertEqual(RULES, ("first", "later"))
        self.assertIsInstance(RULES, tuple)

    def test_nothing(self):
        for rule in RULES:
            self.so([], rule)
        self.assertEqual(list(together([])), KEYS)

    def test_one_piece(self):
        self.so([(0, (5, 6), False)], runs=[(0, (5, 6))], sources=[[0, 0]])
        self.so([(0, (5, 6), True)], runs=[(0, (5, 6))], end=2, sources=[[0, 0]])
        self.so([(3, (5, 6), False)], runs=[(3, (5, 6))], gaps=[(0, 3)], sources=[[0, 0]])

    def test_in_all_orders(self):
        pieces = [(0, (1, 2), False), (2, (3,), False), (5, (6, 7), True)]
        for order in ((0, 1, 2), (0, 2, 1), (1, 0, 2), (1, 2, 0), (2, 0, 1), (2, 1, 0)):
            at = [order.index(number) for number in range(3)]
            for rule in RULES:
                self.so([pieces[number] for number in order], rule, runs=[(0, (1, 2, 3)), (5, (6, 7))], gaps=[(3, 5)], end=7,
                        sources=[[at[0], at[0], at[1]], [at[2], at[2]]])

    def test_doubled_and_overlapping(self):
        pieces = [(0, (1, 2, 3), False), (1, (2, 3, 4), False), (0, (1, 2, 3), False)]
        self.so(pieces, runs=[(0, (1, 2, 3, 4))], sources=[[0, 0, 0, 1]])
        self.so(pieces, "later", runs=[(0, (1, 2, 3, 4))], sources=[[2, 2, 2, 1]])

    def test_bytes_that_are_unlike(self):
        pieces = [(0, (1, 2, 3), False), (1, (2, 9, 4), False), (2, (8,), False), (3, (4, 5), False)]
        self.so(pieces, runs=[(0, (1, 2, 3, 4, 5))], against=[(2, (0, 1, 2))], sources=[[0, 0, 0, 1, 3]])
        self.so(pieces, "later", runs=[(0, (1, 2, 8, 4, 5))], against=[(2, (0, 1, 2))], sources=[[0, 1, 2, 3, 3]])

    def test_all_that_have_an_unlike_byte_are_told(self):
        self.so([(0, (7,), False), (0, (7,), False), (0, (8,), False), (0, (7,), False)], runs=[(0, (7,))], against=[(0, (0, 1, 2, 3))],
                sources=[[0]])

    def test_ends_that_are_unlike(self):
        pieces = [(0, (1, 2), True), (0, (1, 2, 3), True), (1, (2,), False)]
        self.so(pieces, runs=[(0, (1, 2, 3))], end=2, against=[("end", (0, 1))], sources=[[0, 0, 1]])
        self.so(pieces, "later", runs=[(0, (1, 2, 3))], end=3, against=[("end", (0, 1))], sources=[[1, 2, 1]])

    def test_ends_that_are_the_same(self):
        self.so([(0, (1, 2), True), (1, (2,), True), (2, (), True)], runs=[(0, (1, 2))], end=2, sources=[[0, 0]])

    def test_bytes_behind_the_end(self):
        self.so([(3, (1,), False), (0, (1, 2), True), (9, (), False)], runs=[(0, (1, 2)), (3, (1,))], gaps=[(2, 3)], end=2,
                against=[("end", (0, 1))], sources=[[1, 1], [0]])
        self.so([(0, (1, 2, 3), False), (0, (1, 2), True)], runs=[(0, (1, 2, 3))], end=2, against=[("end", (0, 1))], sources=[[0, 0, 0]])
        self.so([(0, (1, 2, 3), False), (0, (1, 2, 3), True)], runs=[(0, (1, 2, 3))], end=3, sources=[[0, 0, 0]])

    def test_bare_pieces(self):
        for rule in RULES:
            self.so([(5, (), False)], rule)
            self.so([(0, (), True)], rule, end=0)
            self.so([(5, (), True)], rule, gaps=[(0, 5)], end=5)
            self.so([(400, (), True)], rule, gaps=[(0, 400)], end=400)
            self.so([(9, (), False), (1, (7,), False)], rule, runs=[(1, (7,))], gaps=[(0, 1)], sources=[[1]])
        self.so([(9, (), False), (0, (7,), True)], runs=[(0, (7,))], end=1, sources=[[1]])
        self.so([(0, (7,), True), (3, (), True)], runs=[(0, (7,))], end=1, against=[("end", (0, 1))], sources=[[0]])
        self.so([(0, (7,), True), (3, (), True)], "later", runs=[(0, (7,))], gaps=[(1, 3)], end=3, against=[("end", (0, 1))], sources=[[0]])

    def test_gaps_up_to_the_end(self):
        self.so([(1, (5,), False), (6, (7,), False), (9, (), True)], runs=[(1, (5,)), (6, (7,))], gaps=[(0, 1), (2, 6), (7, 9)], end=9,
                sources=[[0], [1]])
        self.so([(6, (7,), False), (2, (), True)], runs=[(6, (7,))], gaps=[(0, 6)], end=2, against=[("end", (0, 1))], sources=[[0]])

    def test_bytes_against_one_another_ahead_of_ends(self):
        self.so([(0, (1, 2), True), (0, (3,), True)], runs=[(0, (1, 2))], end=2, against=[(0, (0, 1)), ("end", (0, 1))], sources=[[0, 0]])

    def test_four_hundred(self):
        some = tuple(number % 256 for number in range(400))
        self.so([(0, some, True)], runs=[(0, some)], end=400, sources=[[0] * 400])
        self.so([(399, (9,), False), (400, (), False)], runs=[(399, (9,))], gaps=[(0, 399)], sources=[[0]])


class Refusals(unittest.TestCase):
    BAD = (None, True, 5, "piece", (), (0, ()), (0, (), False, None), [0, (), False], (-1, (), False), (True, (), False), ("0", (), False),
           (None, (), False), (0, [], False), (0, b"", False), (0, (256,), False), (0, (-1,), False), (0, (True,), False), (0, None, False),
           (0, (), 0), (0, (), 1), (0, (), None), (0, (), "yes"), (401, (), False), (400, (1,), False), (399, (1, 2), True), (0, (0,) * 401, False),
           (10 ** 40, (), False), {}, (0, ((1,),), False))
    GOOD = (0, (1,), False)

    def number(self, call, *handed):
        with self.assertRaises(NoPiece) as caught:
            call(*handed)
        return caught.exception.number

    def calls(self):
        return (together, Stream().take, Stream(rule="later").take, lambda pieces: of_two(pieces, []), lambda pieces: of_two([], pieces),
                lambda pieces: of_two([self.GOOD] * 3, pieces))

    def test_no_list(self):
        for thing in (None, True, 5, (), ((0, (), False),), {}, "", (self.GOOD,), object()):
            for call in self.calls():
                self.assertIsNone(self.number(call, thing))

    def test_the_first_that_is_none(self):
        for bad in self.BAD:
            for call in self.calls():
                self.assertEqual(self.number(call, [bad]), 0)
                self.assertEqual(self.number(call, [self.GOOD, bad]), 1)
                self.assertEqual(self.number(call, [self.GOOD, self.GOOD, bad, self.GOOD, bad]), 2)

    def test_at_the_bounds(self):
        for good in ((400, (), True), (399, (1,), False), (0, (255,) * 400, True), (0, (), False)):
            for call in self.calls():
                call([good])

    def test_the_first_lot_ahead(self):
        self.assertEqual(self.number(of_two, [self.GOOD, None], [None]), 1)
        self.assertIsNone(self.number(of_two, None, [None]))
        self.assertEqual(self.number(of_two, [self.GOOD], [self.GOOD, None]), 1)
        self.assertIsNone(self.number(of_two, [self.GOOD], None))

    def test_a_portion_that_is_refused_changes_nothing(self):
        stream = Stream()
        stream.take([(0, (1, 2), False)])
        ahead = stream.told()
        twin = stream.twin()
        for bad in self.BAD:
            self.assertEqual(self.number(stream.take, [(2, (3,), True), bad]), 1)
        self.assertIsNone(self.number(stream.take, ((2, (3,), True),)))
        self.assertEqual(stream.told(), ahead)
        self.assertEqual(stream, twin)
        self.assertEqual(len(stream), 1)
        self.assertEqual(self.number(stream.take, [None]), 0)


class Streams(unittest.TestCase):
    PIECES = [(0, (1, 2), False), (1, (9, 3), False), (5, (), True), (4, (7, 8, 9), False)]

    def test_in_portions(self):
        for rule in RULES:
            stream = Stream(rule=rule)
            self.assertEqual(stream.told(), told())
            for number, piece in enumerate(self.PIECES, start=1):
                self.assertIsNone(stream.take([piece]))
                self.assertEqual(stream.told(), together(self.PIECES[:number], rule=rule))
                self.assertEqual(len(stream), number)
                self.assertEqual(stream.pieces(), self.PIECES[:number])
            stream.take([])
            self.assertEqual(stream.pieces(), self.PIECES)
            self.assertEqual(stream.rule(), rule)

    def test_the_rule_left_out_is_first(self):
        self.assertEqual(Stream().rule(), "first")
        self.assertEqual(together(self.PIECES), together(self.PIECES, rule="first"))
        self.assertNotEqual(together(self.PIECES), together(self.PIECES, rule="later"))
        with self.assertRaises(TypeError):
            Stream("later")
        with self.assertRaises(TypeError):
            together(self.PIECES, "later")
        with self.assertRaises(TypeError):
            of_two(self.PIECES, [], "later")

    def test_by_names(self):
        stream = Stream(rule="later")
        stream.take(pieces=self.PIECES)
        self.assertEqual(stream.told(), together(pieces=self.PIECES, rule="later"))
        self.assertEqual(of_two(one=self.PIECES, other=[], rule="later"), of_two(self.PIECES, [], rule="later"))

    def test_alike(self):
        one, other = Stream(), Stream()
        self.assertTrue(one == other)
        one.take(self.PIECES)
        self.assertFalse(one == other)
        self.assertTrue(one != other)
        other.take(self.PIECES[:2])
        other.take(self.PIECES[2:])
        self.assertTrue(one == other)
        late = Stream(rule="later")
        late.take(self.PIECES)
        self.assertFalse(one == late)
        swapped = Stream()
        swapped.take(self.PIECES[::-1])
        self.assertFalse(one == swapped)
        for thing in (None, 5, "first", [], self.PIECES, one.told(), object()):
            self.assertIs(one == thing, False)
            self.assertIs(one != thing, True)

    def test_twins(self):
        stream = Stream(rule="later")
        stream.take(self.PIECES[:2])
        twin = stream.twin()
        self.assertIsInstance(twin, Stream)
        self.assertIsNot(twin, stream)
        self.assertEqual(twin, stream)
        self.assertEqual(twin.told(), stream.told())
        twin.take(self.PIECES[2:])
        self.assertEqual((len(stream), len(twin)), (2, 4))
        self.assertEqual(stream.told(), together(self.PIECES[:2], rule="later"))
        stream.take([(0, (5,), False)])
        self.assertEqual(twin.told(), together(self.PIECES, rule="later"))

    def test_lengths(self):
        self.assertEqual(len(Stream()), 0)
        stream = Stream()
        stream.take([(0, (), False)] * 5)
        self.assertEqual(len(stream), 5)

    def test_what_is_told_is_the_askers_own(self):
        stream = Stream()
        stream.take(self.PIECES)
        answer = stream.told()
        kept = copy.deepcopy(answer)
        answer["runs"].append(5)
        answer["gaps"].clear()
        answer["against"].clear()
        answer["sources"][0].append(7)
        answer["sources"].append([])
        del answer["end"]
        self.assertEqual(stream.told(), kept)
        pieces = stream.pieces()
        pieces.append((0, (9,), False))
        pieces[0] = None
        self.assertEqual(stream.pieces(), self.PIECES)
        self.assertEqual(stream.told(), kept)

    def test_what_is_handed_in_stays_and_is_not_kept(self):
        pieces = list(self.PIECES)
        stream = Stream()
        stream.take(pieces)
        pieces.append((0, (9,), False))
        pieces[0] = None
        self.assertEqual(stream.pieces(), self.PIECES)
        pieces = list(self.PIECES)
        together(pieces)
        of_two(pieces, pieces)
        self.assertEqual(pieces, self.PIECES)

    def test_its_own_pieces_taken_again(self):
        stream = Stream()
        stream.take(self.PIECES)
        stream.take(stream.pieces())
        self.assertEqual(stream.pieces(), self.PIECES * 2)

    def test_methods_stand_in_the_class(self):
        for name in ("take", "told", "pieces", "rule", "twin", "__len__", "__eq__", "__init__"):
            self.assertIn(name, vars(Stream))
        for name in ("Stream", "together", "of_two"):
            self.assertEqual(getattr(streams, name).__module__, "letterbench.streams")


class TwoLots(unittest.TestCase):
    def so(self, one, other, first, second, rule="first"):
        answer = of_two(one, other, rule=rule)
        self.assertEqual(list(answer), KEYS + ["first", "second"])
        self.assertEqual(answer, {**slowly(one + other, rule), "first": first, "second": second})
        turned = of_two(other, one, rule=rule)
        self.assertEqual((turned["first"], turned["second"]), (second, first))

    def test_lots(self):
        for rule in RULES:
            self.so([], [], [], [], rule)
            self.so([(0, (1, 2), True)], [], [(0, 2)], [], rule)
            self.so([(0, (1, 2), False)], [(1, (2, 3), False)], [(0, 1)], [(2, 3)], rule)
            self.so([(0, (1, 2, 3, 4, 5), False)], [(1, (2,), False), (3, (4,), False)], [(0, 1), (2, 3), (4, 5)], [], rule)
            self.so([(0, (1,), False), (1, (1,), False), (4, (1,), False)], [(2, (1,), False), (3, (1,), True)], [(0, 2), (4, 5)], [(2, 4)], rule)
            self.so([(0, (1, 2), False)], [(0, (1, 2), False)], [], [], rule)
            self.so([(0, (), True)], [(0, (), False), (4, (), False)], [], [], rule)
            self.so([(0, (1,), False), (0, (1,), False)], [(0, (7,), False), (9, (7,), False)], [], [(9, 10)], rule)

    def test_numbers_of_the_second_lot_are_behind(self):
        answer = of_two([(0, (1,), False), (0, (1, 2), False)], [(0, (3,), False), (2, (4,), False)])
        self.assertEqual(answer["sources"], [[0, 1, 3]])
        self.assertEqual(answer["against"], [(0, (0, 1, 2))])


def cut_up(chance, some, many):
    """Pieces of these bytes, in no order, some doubled."""
    pieces = []
    for _ in range(many):
        begin = chance.randint(0, len(some))
        end = chance.randint(begin, min(len(some), begin + 12))
        pieces.append((begin, some[begin:end], end == len(some) and chance.random() < 0.7))
    return pieces


class Drawn(unittest.TestCase):
    def test_what_was_sent_wherever_a_piece_has_it(self):
        chance = random.Random(170)
        for _ in range(150):
            some = tuple(chance.randrange(256) for _ in range(chance.choice((0, 1, 9, 40, 90))))
            pieces = cut_up(chance, some, chance.randint(0, 14))
            pieces += [chance.choice(pieces) for _ in range(chance.randint(0, 4)) if pieces]
            answers = []
            for rule in RULES:
                order = list(pieces)
                chance.shuffle(order)
                answer = together(order, rule=rule)
                self.assertEqual(answer, slowly(order, rule))
                having = {at for place, piece, _ in pieces for at in range(place, place + len(piece))}
                self.assertEqual({at for begin, run in answer["runs"] for at in range(begin, begin + len(run))}, having)
                for begin, run in answer["runs"]:
                    self.assertEqual(run, some[begin:begin + len(run)])
                self.assertEqual({at for begin, end in answer["gaps"] for at in range(begin, end)} & having, set())
                self.assertEqual(answer["against"], [])
                self.assertEqual(answer["end"], len(some) if any(last for _, _, last in pieces) else None)
                answers.append((answer["runs"], answer["gaps"], answer["end"]))
            self.assertEqual(answers[0], answers[1])

    def test_whatever_pieces_at_once_in_portions_and_at_two_places(self):
        chance = random.Random(171)
        for _ in range(200):
            pieces = []
            for _ in range(chance.randint(0, 10)):
                place = chance.choice((0, 1, 2, 5, 9, 390))
                pieces.append((place, tuple(chance.choice((1, 2)) for _ in range(chance.choice((0, 1, 2, 5, 10)))), chance.random() < 0.2))
            for rule in RULES:
                expected = slowly(pieces, rule)
                stream = Stream(rule=rule)
                at = 0
                while at < len(pieces):
                    many = chance.randint(0, 3)
                    stream.take(pieces[at:at + many])
                    at += many
                    if chance.random() < 0.3:
                        stream.told()["runs"].append(None)
                        stream = stream.twin()
                self.assertEqual(stream.told(), expected)
                cut = chance.randint(0, len(pieces))
                one, other = pieces[:cut], pieces[cut:]
                answer = of_two(one, other, rule=rule)
                lots = [{at for place, piece, _ in lot for at in range(place, place + len(piece))} for lot in (one, other)]
                for word, only in (("first", lots[0] - lots[1]), ("second", lots[1] - lots[0])):
                    self.assertEqual(sorted(only), [at for begin, end in answer[word] for at in range(begin, end)])
                    for (_, end), (begin, _) in zip(answer[word], answer[word][1:]):
                        self.assertLess(end, begin)
                self.assertEqual({key: answer[key] for key in KEYS}, expected)


if __name__ == "__main__":
    unittest.main()
