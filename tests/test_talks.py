"""Promises 19, 20, 3 (d) and (k): talks with the least number missed, tables, ways, places, sureness, what is wanted."""

import copy
import itertools
import random
import unittest

from test_losses import called
from letterbench import talks
from letterbench.ends import look_at_end
from letterbench.talks import lets_table, places_at, sureness, talk_of, wanted, way_of

# One asks and may be told no or yes, which it thanks for; both are then where they began.
ASKER = (("idle", "asked", "glad"), (("idle", "says", "ask", "asked"), ("asked", "hears", "no", "idle"), ("asked", "hears", "yes", "glad"),
                                     ("glad", "says", "thanks", "idle")))
TELLER = (("free", "busy", "done"), (("free", "hears", "ask", "busy"), ("busy", "says", "no", "free"), ("busy", "says", "yes", "done"),
                                     ("done", "hears", "thanks", "free")))
PAIR = (ASKER, TELLER)

ASK, NO, YES, THANKS = (0, "ask"), (1, "no"), (1, "yes"), (0, "thanks")


def steps_from(ends, spot):
    """The steps that both ends may do, found row by row."""
    for side in (0, 1):
        for begin, word, sort, to in ends[side][1]:
            for other_begin, other_word, other_sort, other_to in ends[1 - side][1]:
                if (begin, other_begin) == (spot[side], spot[1 - side]) and (word, other_word) == ("says", "hears") and sort == other_sort:
                    yield side, sort, (to, other_to) if side == 0 else (other_to, to)


def slow_table(ends, catch):
    """The least numbers missed, by trying each step of all that are known until nothing is less."""
    known = {(0, ends[0][0][0], ends[1][0][0]): 0}
    is_less = True
    while is_less:
        is_less = False
        for key, many in list(known.items()):
            for side, sort, to in steps_from(ends, key[1:]):
                behind = [((key[0],) + to, many + 1)]
                if key[0] < len(catch) and catch[key[0]] == (side, sort):
                    behind.append(((key[0] + 1,) + to, many))
                for other, least in behind:
                    if known.get(other, least + 1) > least:
                        known[other] = least
                        is_less = True
    return known


def slow_talk(ends, catch):
    table = slow_table(ends, catch)
    reached = max(key[0] for key in table)
    if reached < len(catch):
        return ("against", reached)
    return ("least", min(many for key, many in table.items() if key[0] == len(catch)), table)


def all_ways(ends, catch, many, number=0, spot=None):
    """All ways with so many missed steps at most, as lists of (side, sort, caught, spot behind)."""
    spot = spot or (ends[0][0][0], ends[1][0][0])
    if number == len(catch):
        yield []
    for side, sort, to in steps_from(ends, spot):
        if number < len(catch) and catch[number] == (side, sort):
            for way in all_ways(ends, catch, many, number + 1, to):
                yield [(side, sort, True, to)] + way
        if many > 0:
            for way in all_ways(ends, catch, many - 1, number, to):
                yield [(side, sort, False, to)] + way


def slow_places(ends, catch):
    """The places right behind each number caught, by going back from the end over all that can be."""
    table = slow_table(ends, catch)
    reached = max(key[0] for key in table)
    good = {key for key in table if key[0] == reached}
    is_more = True
    while is_more:
        is_more = False
        for key in table:
            for side, sort, to in steps_from(ends, key[1:]):
                leads = (key[0],) + to in good or (key[0] < reached and catch[key[0]] == (side, sort) and (key[0] + 1,) + to in good)
                if leads and key not in good:
                    good.add(key)
                    is_more = True
    told = [{(ends[0][0][0], ends[1][0][0])}]
    for number in range(reached):
        told.append({to for key in table if key[0] == number for side, sort, to in steps_from(ends, key[1:])
                     if (side, sort) == catch[number] and (number + 1,) + to in good})
    return [(sorted({spot[0] for spot in spots}), sorted({spot[1] for spot in spots})) for spots in told]


class Cases(unittest.TestCase):
    def check(self, ends, catch):
        """All that is told of a talk hangs together and is as by the slow ways; told is what talk_of tells."""
        told = talk_of(ends, catch)
        self.assertIsInstance(told, tuple)
        self.assertEqual(told, slow_talk(ends, catch))
        places = places_at(ends, catch)
        self.assertEqual(places, slow_places(ends, catch))
        can_be = told[1] if told[0] == "against" else len(catch)
        self.assertEqual(len(places), can_be + 1)
        words = ["sure" if len(one) == len(other) == 1 else "possible" for one, other in places[1:]] + ["against"] * (len(catch) - can_be)
        self.assertEqual(sureness(ends, catch), words)
        if told[0] == "against":
            self.assertIsNone(way_of(ends, catch))
            self.assertEqual(wanted(ends, catch), [])
            self.assertIs(lets_table(ends, catch, slow_table(ends, catch)), False)
        else:
            self.assertIs(lets_table(ends, catch, told[2]), True)
            self.check_way(ends, catch, told[1])
        return told

    def check_way(self, ends, catch, many):
        way = way_of(ends, catch)
        self.assertEqual([(side, sort) for side, sort, caught in way if caught], catch)
        self.assertEqual(len([step for step in way if not step[2]]), many)
        spots = {(ends[0][0][0], ends[1][0][0])}
        for side, sort, caught in way:
            self.assertIs(type(caught), bool)
            spots = {to for spot in spots for said_by, said, to in steps_from(ends, spot) if (said_by, said) == (side, sort)}
        self.assertTrue(spots)

    def least(self, catch, many, ends=PAIR):
        told = self.check(ends, catch)
        self.assertEqual(told[:2], ("least", many))

    def against(self, catch, number, ends=PAIR):
        self.assertEqual(self.check(ends, catch), ("against", number))
        self.assertIs(type(talk_of(ends, catch)[1]), int)


class ByHand(Cases):
    def test_nothing_caught(self):
        told = talk_of(PAIR, [])
        self.assertEqual(told, ("least", 0, {(0, "idle", "free"): 0, (0, "asked", "busy"): 1, (0, "glad", "done"): 2}))
        self.assertEqual(way_of(PAIR, []), [])
        self.assertEqual(places_at(PAIR, []), [(["idle"], ["free"])])
        self.assertEqual(sureness(PAIR, []), [])
        self.assertEqual(wanted(PAIR, []), [])
        self.check(PAIR, [])

    def test_nothing_missed(self):
        self.least([ASK], 0)
        self.least([ASK, NO], 0)
        self.least([ASK, YES, THANKS, ASK, NO, ASK], 0)
        self.assertEqual(way_of(PAIR, [ASK, NO]), [(0, "ask", True), (1, "no", True)])
        self.assertEqual(wanted(PAIR, [ASK, YES, THANKS]), [])

    def test_some_missed(self):
        self.least([NO], 1)
        self.least([THANKS], 2)
        self.least([ASK, ASK], 1)
        self.least([THANKS, THANKS, ASK, THANKS], 5)
        self.assertEqual(way_of(PAIR, [THANKS]), [(0, "ask", False), (1, "yes", False), (0, "thanks", True)])
        self.assertEqual(way_of(PAIR, [ASK, ASK]), [(0, "ask", True), (1, "no", False), (0, "ask", True)])

    def test_the_table(self):
        self.assertEqual(talk_of(PAIR, [NO])[2], {
            (0, "idle", "free"): 0, (0, "asked", "busy"): 1, (0, "glad", "done"): 2,
            (1, "idle", "free"): 1, (1, "asked", "busy"): 2, (1, "glad", "done"): 3})

    def test_against(self):
        self.against([(1, "ask")], 0)
        self.against([(0, "no")], 0)
        self.against([ASK, (0, "hello"), ASK], 1)
        self.against([ASK, NO, ASK, YES, (1, "thanks"), (9 % 2, "no")], 4)
        once = (("a", "b"), (("a", "says", "x", "b"),))
        hears = (("a",), (("a", "hears", "x", "a"),))
        self.least([(0, "x")], 0, (once, hears))
        self.against([(0, "x"), (0, "x")], 1, (once, hears))

    def test_against_as_the_other_end_hears_it_not(self):
        says = (("a",), (("a", "says", "x", "a"), ("a", "says", "y", "a")))
        hears = (("a",), (("a", "hears", "x", "a"),))
        self.least([(0, "x")] * 5, 0, (says, hears))
        self.against([(0, "x"), (0, "y")], 1, (says, hears))
        self.against([(1, "x")], 0, (says, hears))
        self.least([(1, "x")], 0, (hears, says))

    def test_ends_without_rows(self):
        bare = (("a",), ())
        self.assertEqual(talk_of((bare, bare), []), ("least", 0, {(0, "a", "a"): 0}))
        self.against([(0, "x")], 0, (bare, bare))
        self.against([ASK], 0, (ASKER, bare))
        self.against([ASK], 0, (bare, TELLER))
        self.assertEqual(places_at((bare, bare), [(0, "x")]), [(["a"], ["a"])])
        self.assertEqual(sureness((bare, bare), [(0, "x"), (1, "y")]), ["against", "against"])

    def test_places_and_sureness(self):
        self.assertEqual(places_at(PAIR, [ASK, THANKS]), [(["idle"], ["free"]), (["asked"], ["busy"]), (["idle"], ["free"])])
        self.assertEqual(sureness(PAIR, [ASK, THANKS]), ["sure", "sure"])
        self.assertEqual(sureness(PAIR, [ASK, (0, "what"), ASK]), ["sure", "against", "against"])
        self.assertEqual(places_at(PAIR, [ASK, (0, "what"), ASK]), [(["idle"], ["free"]), (["asked"], ["busy"])])

    def test_possible_until_more_is_caught(self):
        """The first end may go two ways by one sort; what comes behind tells which it was."""
        one = (("a", "b", "c"), (("a", "says", "x", "b"), ("a", "says", "x", "c"), ("b", "says", "y", "a"), ("c", "says", "z", "a")))
        other = (("o",), (("o", "hears", "x", "o"), ("o", "hears", "y", "o"), ("o", "hears", "z", "o")))
        self.assertEqual(places_at((one, other), [(0, "x")]), [(["a"], ["o"]), (["b", "c"], ["o"])])
        self.assertEqual(sureness((one, other), [(0, "x")]), ["possible"])
        self.assertEqual(places_at((one, other), [(0, "x"), (0, "y")]), [(["a"], ["o"]), (["b", "c"], ["o"]), (["a"], ["o"])])
        stuck = (one[0], one[1][:3])
        self.assertEqual(places_at((stuck, other), [(0, "x"), (0, "y")]), [(["a"], ["o"]), (["b"], ["o"]), (["a"], ["o"])])
        self.assertEqual(sureness((stuck, other), [(0, "x"), (0, "y")]), ["sure", "sure"])
        self.assertEqual(sureness((stuck, other), [(0, "x"), (0, "z")]), ["possible", "against"])
        self.check((one, other), [(0, "x"), (0, "y")])
        self.check((stuck, other), [(0, "x"), (0, "y"), (0, "z")])

    def test_wanted(self):
        self.assertEqual(wanted(PAIR, [THANKS]), [(0, 0, "ask"), (0, 1, "yes")])
        self.assertEqual(wanted(PAIR, [ASK, ASK]), [(1, 1, "no")])
        self.assertEqual(wanted(PAIR, [NO, NO, THANKS]), [(0, 0, "ask"), (1, 0, "ask"), (2, 0, "ask"), (2, 1, "yes")])
        self.assertEqual(wanted(PAIR, [NO, (1, "what")]), [])

    def test_wanted_by_each_of_the_least_ways(self):
        """To the z behind two of b, c lead two ways as short, which have but the first step in common."""
        one = (("s", "t", "b", "c", "d"), (("s", "says", "x", "t"), ("t", "says", "p", "b"), ("t", "says", "q", "c"), ("b", "says", "r", "d"),
                                           ("c", "says", "r", "d"), ("d", "says", "z", "s"), ("b", "says", "u", "c")))
        other = (("o",), tuple(("o", "hears", sort, "o") for sort in "xpqrzu"))
        self.assertEqual(wanted((one, other), [(0, "z")]), [(0, 0, "r"), (0, 0, "x")])
        self.assertEqual(wanted((one, other), [(0, "z"), (0, "z")]), [(0, 0, "r"), (0, 0, "x"), (1, 0, "r"), (1, 0, "x")])
        self.assertEqual(wanted((one, other), [(0, "x"), (0, "r"), (0, "z")]), [])

    def test_wanted_is_told_once(self):
        one = (("a", "b", "c"), (("a", "says", "x", "b"), ("b", "says", "x", "c"), ("c", "says", "y", "a")))
        other = (("o",), (("o", "hears", "x", "o"), ("o", "hears", "y", "o")))
        self.least([(0, "y")], 2, (one, other))
        self.assertEqual(wanted((one, other), [(0, "y")]), [(0, 0, "x")])

    def test_a_missed_one_before_or_behind(self):
        """What is missed may stand behind the first or the second caught one: none of both is wanted."""
        one = (("a", "b"), (("a", "says", "x", "a"), ("b", "says", "x", "b"), ("a", "says", "m", "b"), ("b", "says", "z", "b")))
        other = (("o",), (("o", "hears", "x", "o"), ("o", "hears", "m", "o"), ("o", "hears", "z", "o")))
        self.least([(0, "x"), (0, "x"), (0, "z")], 1, (one, other))
        self.assertEqual(wanted((one, other), [(0, "x"), (0, "x"), (0, "z")]), [])
        self.assertEqual(wanted((one, other), [(0, "z")]), [(0, 0, "m")])
        self.assertEqual(sureness((one, other), [(0, "x"), (0, "x"), (0, "z")]), ["possible", "possible", "sure"])

    def test_a_side_says_what_the_other_says_too(self):
        both = (("a",), (("a", "says", "x", "a"), ("a", "hears", "x", "a")))
        self.least([(0, "x"), (1, "x"), (0, "x")], 0, (both, both))
        self.assertEqual(wanted((both, both), [(0, "x")]), [])

    def test_sixty_caught(self):
        self.least([ASK, NO] * 30, 0)
        self.least([NO] * 60, 60)
        self.assertEqual(len(way_of(PAIR, [THANKS] * 60)), 180)
        self.assertEqual(len(wanted(PAIR, [THANKS] * 60)), 120)
        self.against([NO] * 59 + [(0, "no")], 59)

    def test_eight_places_and_twelve_rows(self):
        places = tuple("abcdefgh")
        ring = tuple((begin, "says", "x", to) for begin, to in zip(places, places[1:] + places[:1]))
        rings = tuple((begin, "hears", "x", to) for begin, to in zip(places, places[1:] + places[:1]))
        one = (places, ring + (("h", "says", "z", "a"), ("d", "says", "w", "a"), ("a", "says", "w", "e"), ("e", "says", "z", "e")))
        other = (places, rings + (("h", "hears", "z", "a"), ("d", "hears", "w", "a"), ("e", "hears", "z", "e"), ("a", "hears", "w", "b")))
        self.check((one, other), [(0, "z")])
        self.check((one, other), [(0, "w"), (0, "z"), (0, "x"), (0, "z")] * 3)
        self.check((one, other), [(0, "z")] * 9 + [(1, "z")])


class Tables(unittest.TestCase):
    CATCH = [NO, ASK, THANKS]

    def setUp(self):
        self.table = talk_of(PAIR, self.CATCH)[2]

    def so(self, thing, catch=None):
        return lets_table(PAIR, self.CATCH if catch is None else catch, thing)

    def test_just_as_told(self):
        self.assertIs(self.so(self.table), True)
        turned = dict(reversed(list(self.table.items())))
        self.assertIs(self.so(turned), True)

    def test_a_number_more_or_less(self):
        for key in self.table:
            for more in (-1, 1, 2, -10, 10 ** 30):
                self.assertIs(self.so({**self.table, key: self.table[key] + more}), False, key)
        for more in (-1, 1):
            self.assertIs(self.so({key: many + more for key, many in self.table.items()}), False)
            self.assertIs(self.so({key: many + more * (key[0] == 3) for key, many in self.table.items()}), False)

    def test_a_key_left_out(self):
        for key in self.table:
            self.assertIs(self.so({other: many for other, many in self.table.items() if other != key}), False, key)
        for number in range(4):
            self.assertIs(self.so({key: many for key, many in self.table.items() if key[0] != number}), False)
            self.assertIs(self.so({key: many for key, many in self.table.items() if key[0] < number}), False)
        self.assertIs(self.so({}), False)

    def test_a_key_put_in(self):
        for key in ((4, "idle", "free"), (-1, "idle", "free"), (0, "idle", "busy"), (0, "asked", "free"), (1, "glad", "free"), (0, "free", "idle"),
                    (0, "none", "free"), (0, None, None), (0, "idle"), ("idle", "free"), (), None, 0, "idle", (0, "idle", "free", 0), (0, ("idle",), "free"),
                    ((0, "idle", "free"),), (None, "idle", "free"), ("0", "idle", "free"), frozenset(), (10 ** 40, "idle", "free")):
            for many in (0, 1, 2, 3, None):
                self.assertIs(self.so({**self.table, key: many}), False, key)

    def test_true_is_no_1(self):
        table = {(True if key[0] == 1 else key[0],) + key[1:]: many for key, many in self.table.items()}
        self.assertEqual(table, self.table)
        self.assertIs(self.so(table), False)
        table = {(False if key[0] == 0 else key[0],) + key[1:]: many for key, many in self.table.items()}
        self.assertIs(self.so(table), False)
        for key, many in self.table.items():
            if many in (0, 1):
                table = {**self.table, key: bool(many)}
                self.assertEqual(table, self.table)
                self.assertIs(self.so(table), False)

    def test_things_of_other_kinds(self):
        for thing in (None, True, 5, "table", [], (), list(self.table.items()), ("least", 5, self.table), object(), {None: None}, {(): ()},
                      {key: str(many) for key, many in self.table.items()}, {key: (many,) for key, many in self.table.items()},
                      {key: None for key in self.table}, set(self.table)):
            self.assertIs(self.so(thing), False)

    def test_of_another_catch_or_of_one_that_is_against(self):
        self.assertIs(self.so(self.table, self.CATCH[:2]), False)
        self.assertIs(self.so(self.table, self.CATCH + [ASK]), False)
        self.assertIs(self.so(self.table, [NO, NO, THANKS]), False)
        against = self.CATCH + [(1, "ask")]
        self.assertEqual(talk_of(PAIR, against), ("against", 3))
        for thing in (self.table, {}, None, ("against", 3)):
            self.assertIs(self.so(thing, against), False)

    def test_what_holds_itself_up(self):
        """A ring of keys that lead to one another is come to from nowhere, however its numbers are."""
        ring = (("a", "b", "c"), (("b", "says", "x", "c"), ("c", "says", "x", "b")))
        other = (("o",), (("o", "hears", "x", "o"),))
        self.assertEqual(talk_of((ring, other), []), ("least", 0, {(0, "a", "o"): 0}))
        for one, two in ((0, 0), (1, 2), (5, 6), (1, 1), (-3, -2)):
            self.assertIs(lets_table((ring, other), [], {(0, "a", "o"): 0, (0, "b", "o"): one, (0, "c", "o"): two}), False)
        self.assertIs(lets_table((ring, other), [], {(0, "a", "o"): 0}), True)

    def test_by_names(self):
        self.assertIs(lets_table(ends=PAIR, catch=self.CATCH, thing=self.table), True)
        self.assertEqual(talk_of(ends=PAIR, catch=self.CATCH)[2], self.table)
        self.assertEqual(way_of(ends=PAIR, catch=self.CATCH), way_of(PAIR, self.CATCH))
        for call in (places_at, sureness, wanted):
            self.assertEqual(call(ends=PAIR, catch=self.CATCH), call(PAIR, self.CATCH))

    def test_told_anew_and_handed_in_untouched(self):
        catch = list(self.CATCH)
        for call in (lambda: talk_of(PAIR, catch)[2], lambda: way_of(PAIR, catch), lambda: places_at(PAIR, catch), lambda: sureness(PAIR, catch),
                     lambda: wanted(PAIR, catch)):
            told = call()
            kept = copy.deepcopy(told)
            self.assertTrue(told)
            if isinstance(told, list) and isinstance(told[0], tuple) and isinstance(told[0][0], list):
                told[0][0].append("else")
            told.clear()
            self.assertEqual(call(), kept)
        self.assertEqual(catch, self.CATCH)

    def test_stands_in_its_file(self):
        for name in ("talk_of", "lets_table", "way_of", "places_at", "sureness", "wanted"):
            self.assertEqual(getattr(talks, name).__module__, "letterbench.talks")


def draw_end(chance, places, sorts):
    rows = []
    for _ in range(chance.randint(2, 9)):
        row = (chance.choice(places), chance.choice(("hears", "says")), chance.choice(sorts), chance.choice(places))
        if row not in rows:
            rows.append(row)
    return (places, tuple(rows))


def draw_ends(chance):
    sorts = ("x", "y", "z")[:chance.randint(1, 3)]
    return tuple(draw_end(chance, tuple(chance.sample(("pa", "pb", "pc", "pd"), chance.randint(1, 4))), sorts) for _ in range(2))


def draw_walk(chance, ends, many):
    """Steps that both ends do one behind the other."""
    spot = (ends[0][0][0], ends[1][0][0])
    walk = []
    for _ in range(many):
        steps = list(steps_from(ends, spot))
        if not steps:
            break
        side, sort, spot = chance.choice(steps)
        walk.append((side, sort))
    return walk


def end_called(end):
    return (tuple(map(called, end[0])), tuple((called(begin), word, called(sort), called(to)) for begin, word, sort, to in end[1]))


class Drawn(Cases):
    def drawn(self, seed, many):
        chance = random.Random(seed)
        while many:
            ends = draw_ends(chance)
            walk = draw_walk(chance, ends, chance.randint(1, 9))
            if len(walk) > 1 or chance.random() < 0.1:
                many -= 1
                yield chance, ends, walk

    def test_as_by_slow_ways(self):
        told = {"least": 0, "against": 0}
        for chance, ends, walk in self.drawn(190, 500):
            for end in ends:
                look_at_end(end)
            catch = [step for step in walk if chance.random() < 0.6]
            if chance.random() < 0.4:
                catch.insert(chance.randint(0, len(catch)), (chance.randint(0, 1), chance.choice("xyz")))
            told[self.check(ends, catch)[0]] += 1
        self.assertGreater(min(told.values()), 50, told)

    def test_a_walk_with_steps_missed(self):
        for chance, ends, walk in self.drawn(191, 300):
            catch = [step for step in walk if chance.random() < 0.5]
            word, many, _ = talk_of(ends, catch)
            self.assertEqual(word, "least")
            self.assertLessEqual(many, len(walk) - len(catch))
            self.assertEqual(talk_of(ends, walk)[1], 0)
            self.assertNotIn("against", sureness(ends, catch))

    def test_wanted_by_all_ways(self):
        seen = 0
        for chance, ends, walk in self.drawn(192, 900):
            catch = [step for step in walk if chance.random() < 0.4][:4]
            word, many, _ = talk_of(ends, catch)
            ways = list(itertools.islice(all_ways(ends, catch, many), 3000)) if many < 5 else []
            if not 0 < len(ways) < 3000:
                continue
            common = None
            for way in ways:
                if sum(not caught for _, _, caught, _ in way) != many:
                    continue
                number = 0
                missed = set()
                for side, sort, caught, _ in way:
                    number += caught
                    if not caught:
                        missed.add((number, side, sort))
                common = missed if common is None else common & missed
            self.assertEqual(wanted(ends, catch), sorted(common), (ends, catch))
            seen += bool(common)
        self.assertGreater(seen, 60)

    def test_what_is_sure_stays_so(self):
        many = {"sure": 0, "possible": 0, "against": 0}
        for chance, ends, walk in self.drawn(193, 250):
            catch = [step for step in walk if chance.random() < 0.7] + [(chance.randint(0, 1), chance.choice("xyz")) for _ in range(2)]
            ahead = []
            for number in range(len(catch) + 1):
                words = sureness(ends, catch[:number])
                places = places_at(ends, catch[:number])
                for at, word in enumerate(ahead):
                    if word in ("sure", "against"):
                        self.assertEqual(words[at], word)
                    if word == "sure":
                        self.assertEqual(places[at + 1], kept[at + 1])
                ahead, kept = words, places
            for word in ahead:
                many[word] += 1
        self.assertGreater(min(many.values()), 40, many)

    def test_ends_exchanged_and_names_called_otherwise(self):
        for chance, ends, walk in self.drawn(194, 200):
            catch = [step for step in walk if chance.random() < 0.6]
            if chance.random() < 0.3:
                catch.append((chance.randint(0, 1), chance.choice("xyz")))
            turned = ends[::-1]
            other_catch = [(1 - side, sort) for side, sort in catch]
            told = talk_of(ends, catch)
            expected = told[:2] + tuple({(number, there, here): many for (number, here, there), many in table.items()} for table in told[2:])
            self.assertEqual(talk_of(turned, other_catch), expected)
            self.assertEqual(places_at(turned, other_catch), [(there, here) for here, there in places_at(ends, catch)])
            self.assertEqual(sureness(turned, other_catch), sureness(ends, catch))
            self.assertEqual(wanted(turned, other_catch), sorted((number, 1 - side, sort) for number, side, sort in wanted(ends, catch)))
            named = tuple(map(end_called, ends))
            named_catch = [(side, called(sort)) for side, sort in catch]
            expected = told[:2] + tuple({(number, called(here), called(there)): many for (number, here, there), many in table.items()} for table in told[2:])
            self.assertEqual(talk_of(named, named_catch), expected)
            self.assertEqual(places_at(named, named_catch), [(list(map(called, here)), list(map(called, there))) for here, there in places_at(ends, catch)])
            self.assertEqual(sureness(named, named_catch), sureness(ends, catch))
            self.assertEqual(wanted(named, named_catch), [(number, side, called(sort)) for number, side, sort in wanted(ends, catch)])
            if told[0] == "least":
                self.check_way(turned, other_catch, told[1])
                self.check_way(named, named_catch, told[1])


if __name__ == "__main__":
    unittest.main()
