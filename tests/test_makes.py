"""Promise 24: makes looked at, their steps, answers, stands and lots."""

import copy
import itertools
import random
import unittest

from test_losses import called
from letterbench import makes
from letterbench.errors import NoMake
from letterbench.makes import answers, look_at_make, lots_of, stands_of, step_of

# It counts what it is asked up to three in its box, and is busy from then on until it is told to rest.
COUNTER = (("idle", "busy"), (
    ("idle", "ask", ("box", "less", 3), ("yes", "box"), "next", "idle"),
    ("idle", "ask", None, ("no", "heard"), 0, "busy"),
    ("busy", "ask", ("heard", "same", 7), ("no", 9), None, "busy"),
    ("busy", "rest", ("heard", "more", 250), None, 2, "idle"),
    ("busy", "rest", ("heard", "less", 5), ("ok", 0), "next", "idle"),
))
ROW = COUNTER[1][0]
NO_WORDS = (None, True, 5, "", "Ask", "a b", "asksasksa", ("ask",), ["ask"], {}, b"ask")
NO_BYTES = (None, True, False, -1, 256, "5", (5,), [], {}, 10 ** 40)


class Looks(unittest.TestCase):
    def refused(self, thing, number):
        for call in (look_at_make, lambda make: step_of(make, None, None), lambda make: answers(make, None), stands_of, lots_of):
            with self.assertRaises(NoMake) as caught:
                call(thing)
            self.assertEqual(caught.exception.number, number, thing)

    def test_makes(self):
        for make in (COUNTER, (("a",), ()), (tuple("abcdefgh"), ()), (("abcdefgh",), ())):
            self.assertIsNone(look_at_make(make))
            self.assertIsNone(look_at_make(thing=make))

    def test_rows_at_their_bounds(self):
        for many in (0, 1, 23, 24):
            self.assertIsNone(look_at_make((COUNTER[0], (ROW,) * many)))
        self.refused((COUNTER[0], (ROW,) * 25), None)
        self.refused((COUNTER[0], (None,) * 25), None)

    def test_no_such_tuple_or_places(self):
        places, rows = COUNTER
        for thing in (None, True, 5, "make", [], (), {}, list(COUNTER), COUNTER[:1], COUNTER + (0,), (places, list(rows)), (places, None), (places, {}),
                      (list(places), rows), ((), rows), (None, rows), ("idle", rows), (tuple("abcdefghi"), ()), (places + ("idle",), rows),
                      (("idle", "idle"), ()), (set(places), rows)):
            self.refused(thing, None)
        for word in NO_WORDS:
            self.refused((places + (word,), rows), None)

    def test_each_part_of_a_row(self):
        def so(at, thing):
            row = ROW[:at] + (thing,) + ROW[at + 1:]
            self.assertIsNone(look_at_make((COUNTER[0], COUNTER[1] + (row,))), row)

        def not_so(at, thing):
            row = ROW[:at] + (thing,) + ROW[at + 1:]
            for number in (0, 2, 5):
                self.refused((COUNTER[0], COUNTER[1][:number] + (row, row) + COUNTER[1][number:]), number)

        for at in (0, 5):
            so(at, "busy")
            for word in NO_WORDS + ("gone", "box"):
                not_so(at, word)
        so(1, "a")
        so(1, "abcdefgh")
        for word in NO_WORDS:
            not_so(1, word)
        for what, word, worth in itertools.product(("heard", "box"), ("same", "less", "more"), (0, 1, 255)):
            so(2, (what, word, worth))
            so(3, ("x", worth))
            so(3, ("x", what))
        so(2, None)
        so(3, None)
        for thing in (True, 0, "", (), ("heard",), ("heard", "same"), ("heard", "same", 5, 0), ["heard", "same", 5], ("box", "same", "box"), ("Box", "same", 5),
                      (None, "same", 5), (["box"], "same", 5), ("box", None, 5), ("box", "Same", 5), ("box", ["same"], 5), ("next", "same", 5)):
            not_so(2, thing)
        for worth in NO_BYTES:
            not_so(2, ("heard", "same", worth))
            not_so(2, ("box", "less", worth))
            not_so(3, ("yes", worth))
        for thing in (True, 0, "", (), "yes", ("yes",), ("yes", 5, 0), ["yes", 5], ("yes", "next"), ("yes", "Heard")):
            not_so(3, thing)
        for word in NO_WORDS:
            not_so(3, (word, 5))
        for box in (None, 0, 1, 2, 3, "next"):
            so(4, box)
        for box in (True, False, -1, 4, 256, "Next", "", "box", "0", (), (0,), ["next"], {}):
            not_so(4, box)

    def test_rows_of_other_forms(self):
        for row in (None, True, 5, "row", (), list(ROW), ROW[:5], ROW + (0,), {}, set(ROW[:2])):
            self.refused((COUNTER[0], (row,)), 0)
            self.refused((COUNTER[0], COUNTER[1] + (row, row)), 5)

    def test_the_first_row_of_several(self):
        self.refused((COUNTER[0], (ROW, None, (), ROW)), 1)


class Steps(unittest.TestCase):
    def so(self, stand, letter, answer, behind):
        self.assertEqual(step_of(COUNTER, stand, letter), (answer, behind), (stand, letter))
        self.assertEqual(step_of(make=COUNTER, stand=stand, letter=letter), (answer, behind))

    def test_the_first_row_that_may_be_done(self):
        self.so(("idle", 0), ("ask", 200), ("yes", 0), ("idle", 1))
        self.so(("idle", 2), ("ask", 200), ("yes", 2), ("idle", 3))
        self.so(("idle", 3), ("ask", 200), ("no", 200), ("busy", 0))
        self.so(("busy", 1), ("ask", 7), ("no", 9), ("busy", 1))

    def test_answers_of_none_and_next_behind_three(self):
        self.so(("busy", 3), ("rest", 251), None, ("idle", 2))
        self.so(("busy", 3), ("rest", 4), ("ok", 0), ("idle", 0))
        self.so(("busy", 0), ("rest", 0), ("ok", 0), ("idle", 1))

    def test_deaf(self):
        for stand, letter in ((("busy", 1), ("ask", 6)), (("busy", 1), ("ask", 8)), (("busy", 2), ("rest", 5)), (("busy", 2), ("rest", 250)),
                              (("idle", 2), ("rest", 0)), (("idle", 2), ("other", 0))):
            self.so(stand, letter, ("deaf",), stand)

    def test_wishes_of_each_sort(self):
        for what, word, worth in itertools.product(("heard", "box"), ("same", "less", "more"), (0, 1, 2, 3, 254, 255)):
            make = (("a", "b"), (("a", "x", (what, word, worth), ("y", 1), None, "b"),))
            for box, number in itertools.product(range(4), (0, 1, 2, 3, 4, 253, 254, 255)):
                seen = number if what == "heard" else box
                is_so = {"same": seen == worth, "less": seen < worth, "more": seen > worth}[word]
                wanted = (("y", 1), ("b", box)) if is_so else (("deaf",), ("a", box))
                self.assertEqual(step_of(make, ("a", box), ("x", number)), wanted)

    def test_the_box_in_an_answer_is_as_it_was(self):
        for box, told in ((None, None), (0, 0), (3, 3), ("next", None)):
            make = (("a",), (("a", "x", None, ("y", "box"), box, "a"),))
            for now in range(4):
                behind = {None: now, "next": (now + 1) % 4}.get(box, told)
                self.assertEqual(step_of(make, ("a", now), ("x", 9)), (("y", now), ("a", behind)))


class Answers(unittest.TestCase):
    def test_one_behind_the_other(self):
        letters = [("ask", 5)] * 4 + [("ask", 5), ("ask", 7), ("rest", 100), ("rest", 255), ("ask", 6), ("ask", 6)]
        ahead = list(letters)
        wanted = [("yes", 0), ("yes", 1), ("yes", 2), ("no", 5), ("deaf",), ("no", 9), ("deaf",), None, ("yes", 2), ("no", 6)]
        told = answers(COUNTER, letters)
        self.assertEqual(told, wanted)
        told.clear()
        self.assertEqual(answers(make=COUNTER, letters=letters), wanted)
        self.assertEqual(letters, ahead)

    def test_none(self):
        self.assertEqual(answers(COUNTER, []), [])
        self.assertEqual(answers((("a",), ()), [("x", 5), ("y", 6)]), [("deaf",), ("deaf",)])


def slow_steps(make):
    """What each stand does at each letter of the rows' sorts, all numbers tried."""
    letters = [(sort, number) for sort in sorted({row[1] for row in make[1]}) for number in range(256)]
    return {stand: [step_of(make, stand, letter) for letter in letters] for stand in itertools.product(make[0], range(4))}


def slow_stands(make, steps):
    found = {(make[0][0], 0)}
    while True:
        more = {behind for stand in found for _, behind in steps[stand]} - found
        if not more:
            return sorted(found)
        found |= more


def slow_lots(make, steps):
    """Pairs of stands are marked as parted until no more are."""
    stands = slow_stands(make, steps)
    parted = set()
    is_more = True
    while is_more:
        is_more = False
        for one, other in itertools.combinations(stands, 2):
            if (one, other) not in parted:
                for (answer, behind), (other_answer, other_behind) in zip(steps[one], steps[other]):
                    if answer != other_answer or tuple(sorted((behind, other_behind))) in parted:
                        parted.add((one, other))
                        is_more = True
                        break
    return sorted({tuple(other for other in stands if other == one or tuple(sorted((one, other))) not in parted) for one in stands})


def draw_row(chance, places):
    wish = chance.choice((None, None, ("heard", chance.choice(("same", "less", "more")), chance.choice((0, 1, 2, 5, 254, 255))),
                          ("box", chance.choice(("same", "less", "more")), chance.choice((0, 1, 2, 3, 4)))))
    answer = chance.choice((None, ("y", "heard"), ("y", "box"), ("y", chance.choice((0, 1, 2, 5, 6, 255))), ("z", 0)))
    return (chance.choice(places), chance.choice(("x", "w")), wish, answer, chance.choice((None, None, 0, 1, 2, 3, "next")), chance.choice(places))


def draw_make(chance):
    places = tuple(chance.sample(("c", "b", "a", "d"), chance.randint(1, 4)))
    return (places, tuple(draw_row(chance, places) for _ in range(chance.randint(0, 9))))


class Stands(unittest.TestCase):
    def test_all_that_can_be_come_to(self):
        self.assertEqual(stands_of(COUNTER), [("busy", 0), ("idle", 0), ("idle", 1), ("idle", 2), ("idle", 3)])
        self.assertEqual(stands_of((("b", "a"), ())), [("b", 0)])
        make = (("b", "a"), (("b", "x", ("heard", "same", 77), None, 3, "a"), ("a", "x", ("box", "less", 3), None, None, "b")))
        self.assertEqual(stands_of(make), [("a", 3), ("b", 0)])
        self.assertEqual(stands_of(make=make), [("a", 3), ("b", 0)])

    def test_rows_that_no_number_comes_to(self):
        make = (("a", "b", "c"), (("a", "x", ("heard", "less", 0), None, None, "b"), ("a", "x", ("heard", "more", 255), None, None, "b"),
                                  ("a", "x", ("heard", "less", 255), None, 1, "a"), ("a", "x", ("box", "more", 3), None, None, "c"),
                                  ("a", "x", ("box", "same", 200), None, None, "c")))
        self.assertEqual(stands_of(make), [("a", 0), ("a", 1)])

    def test_a_number_that_only_one_wish_leaves(self):
        make = (("a", "b"), (("a", "x", ("heard", "less", 100), None, None, "a"), ("a", "x", ("heard", "more", 100), None, None, "a"),
                             ("a", "x", None, None, None, "b")))
        self.assertEqual(stands_of(make), [("a", 0), ("b", 0)])

    def test_eight_places_and_four_boxes(self):
        places = tuple("hgfedcba")
        rows = tuple((place, "x", None, None, None, to) for place, to in zip(places, places[1:] + places[:1]))
        make = (places, rows + (("a", "y", None, None, "next", "a"),))
        self.assertEqual(stands_of(make), sorted(itertools.product(places, range(4))))
        self.assertEqual(len(lots_of(make)), 8)


class Lots(unittest.TestCase):
    def test_stands_that_do_alike(self):
        self.assertEqual(lots_of(COUNTER), [[("busy", 0)], [("idle", 0)], [("idle", 1)], [("idle", 2)], [("idle", 3)]])
        self.assertEqual(lots_of((("b", "a"), ())), [[("b", 0)]])
        make = (("b", "a"), (("a", "x", None, ("y", 1), "next", "b"), ("b", "x", None, ("y", 1), None, "a")))
        self.assertEqual(lots_of(make), [[("a", 0), ("a", 1), ("a", 2), ("a", 3), ("b", 0), ("b", 1), ("b", 2), ("b", 3)]])

    def test_parted_by_one_number_alone(self):
        for answer in (("y", 77), None, ("z", "heard"), ("y", "box")):
            make = (("a", "b"), (("a", "go", None, None, None, "b"), ("b", "go", None, None, None, "b"), ("a", "x", ("heard", "same", 77), answer, None, "a"),
                                 ("a", "x", None, ("y", "heard"), None, "a"), ("b", "x", None, ("y", "heard"), None, "b")))
            wanted = [[("a", 0), ("b", 0)]] if answer == ("y", 77) else [[("a", 0)], [("b", 0)]]
            self.assertEqual(lots_of(make), wanted, answer)

    def test_a_number_answered_that_is_just_what_is_heard(self):
        make = (("a", "b"), (("a", "go", None, None, None, "b"), ("b", "go", None, None, None, "b"),
                             ("a", "x", ("heard", "less", 1), ("y", 0), None, "a"), ("a", "x", None, ("y", "heard"), None, "a"),
                             ("b", "x", None, ("y", "heard"), None, "b")))
        self.assertEqual(lots_of(make), [[("a", 0), ("b", 0)]])

    def test_parted_some_letters_later(self):
        places = ("a", "b", "c", "d")
        rows = tuple((place, "x", None, None, None, to) for place, to in zip(places, places[1:] + places[:1]))
        make = (places, rows + (("d", "y", None, ("z", 1), None, "d"),))
        self.assertEqual(lots_of(make), [[("a", 0)], [("b", 0)], [("c", 0)], [("d", 0)]])

    def test_told_anew(self):
        told = lots_of(COUNTER)
        wanted = copy.deepcopy(told)
        told[0].append(None)
        told.clear()
        self.assertEqual(lots_of(make=COUNTER), wanted)
        told = stands_of(COUNTER)
        told.clear()
        self.assertEqual(len(stands_of(COUNTER)), 5)


class Drawn(unittest.TestCase):
    def test_as_by_trying_all_numbers(self):
        chance = random.Random(240)
        many = 0
        for _ in range(60):
            make = draw_make(chance)
            self.assertIsNone(look_at_make(make))
            steps = slow_steps(make)
            self.assertEqual(stands_of(make), slow_stands(make, steps))
            self.assertEqual([tuple(lot) for lot in lots_of(make)], slow_lots(make, steps))
            many += len(lots_of(make)) not in (1, len(stands_of(make)))
        self.assertGreater(many, 5)

    def test_words_called_otherwise(self):
        chance = random.Random(241)
        for _ in range(60):
            make = draw_make(chance)
            other = (tuple(map(called, make[0])), tuple(
                (called(begin), called(sort), wish, answer and (called(answer[0]), answer[1]), box, called(to))
                for begin, sort, wish, answer, box, to in make[1]))
            self.assertEqual(stands_of(other), [(called(place), box) for place, box in stands_of(make)])
            self.assertEqual(lots_of(other), [[(called(place), box) for place, box in lot] for lot in lots_of(make)])
            letters = [(chance.choice("xw"), chance.choice((0, 1, 2, 5, 6, 254, 255))) for _ in range(20)]
            named = [answer if answer is None or answer == ("deaf",) else (called(answer[0]), answer[1]) for answer in answers(make, letters)]
            self.assertEqual(answers(other, [(called(sort), number) for sort, number in letters]), named)


class Places(unittest.TestCase):
    def test_stand_in_their_file(self):
        for name in ("look_at_make", "step_of", "answers", "stands_of", "lots_of"):
            self.assertEqual(getattr(makes, name).__module__, "letterbench.makes")


if __name__ == "__main__":
    unittest.main()
