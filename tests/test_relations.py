"""Promises 21, 22, 3 (f) and (k): relations looked at, found in talks, and the worths that they give."""

import copy
import random
import unittest

from test_losses import called
from letterbench import relations
from letterbench.errors import NoRelation
from letterbench.relations import found_in, holds, is_relation, worth_by

NO_WORDS = (None, True, 5, "", "Abc", "a b", "abcdefghi", ("a",), ["a"], {}, b"a")
NO_PLACES = (None, True, 5, "a", (), (0,), (0, "a", 0), [0, "a"], (-1, "a"), (True, "a"), (False, "a"), ("0", "a"), (None, "a"), ("a", 0), {}) + tuple(
    (0, word) for word in NO_WORDS)


def talk(*letters):
    """A talk whose letters, said in turn by both, have these fields."""
    return [(number % 2, dict(fields)) for number, fields in enumerate(letters)]


class Looks(unittest.TestCase):
    def so(self, *thing):
        self.assertIs(is_relation(thing), True, thing)
        self.assertIs(holds(thing, []), True)

    def not_so(self, thing):
        self.assertIs(is_relation(thing), False, thing)
        with self.assertRaises(NoRelation):
            holds(thing, talk({"a": 1}))

    def test_told(self):
        for worth in (0, 1, -1, 255, 10 ** 40, -10 ** 40):
            self.so("told", (0, "a"), None, worth)
            self.so("told", (10 ** 9, "abcdefgh"), None, worth)
        for worth in (None, True, False, "5", (5,), [], {}):
            self.not_so(("told", (0, "a"), None, worth))
        for other in ((0, "a"), (0, "b"), False, 0, "", ()):
            self.not_so(("told", (1, "a"), other, 5))

    def test_same(self):
        self.so("same", (1, "a"), (0, "a"), 0)
        self.so("same", (1, "a"), (0, "z"), 0)
        self.so("same", (1, "b"), (1, "a"), 0)
        self.so("same", (1, "ab"), (1, "a"), 0)
        for much in (1, -1, None, False, True, "0", (0,)):
            self.not_so(("same", (1, "a"), (0, "a"), much))

    def test_more(self):
        for much in (1, -1, 255, -10 ** 40, 10 ** 40):
            self.so("more", (1, "a"), (0, "a"), much)
        for much in (0, None, False, True, "1", (1,)):
            self.not_so(("more", (1, "a"), (0, "a"), much))

    def test_the_other_is_a_lesser_place(self):
        for word, much in (("same", 0), ("more", 3)):
            for place, other in (((1, "a"), (1, "a")), ((1, "a"), (2, "a")), ((1, "a"), (1, "b")), ((0, "z"), (1, "a")), ((1, "a"), (1, "ab"))):
                self.not_so((word, place, other, much))
            for other in NO_PLACES:
                self.not_so((word, (3, "z"), other, much))

    def test_places(self):
        for place in NO_PLACES:
            self.not_so(("told", place, None, 5))
            self.not_so(("same", place, (0, "a"), 0))
            self.not_so(("more", place, (0, "a"), 5))

    def test_things_of_other_kinds(self):
        good = ("told", (0, "a"), None, 5)
        for thing in (None, True, 5, "told", [], (), {}, list(good), good[:3], good + (0,), good[1:], object(), frozenset(good),
                      ("Told",) + good[1:], (None,) + good[1:], (["told"],) + good[1:], ({},) + good[1:], ("less", (1, "a"), (0, "a"), 5),
                      ("same",) + good[1:], ("more",) + good[1:], (True,) + good[1:]):
            self.not_so(thing)


class Holding(unittest.TestCase):
    TALK = talk({"a": 5, "b": 7}, {"a": 5, "c": 2}, {})

    def so(self, *relation):
        self.assertIs(holds(relation, self.TALK), True, relation)

    def not_so(self, *relation):
        self.assertIs(holds(relation, self.TALK), False, relation)

    def test_told(self):
        self.so("told", (0, "a"), None, 5)
        self.not_so("told", (0, "a"), None, 4)
        self.not_so("told", (1, "c"), None, -2)

    def test_same(self):
        self.so("same", (1, "a"), (0, "a"), 0)
        self.not_so("same", (1, "a"), (0, "b"), 0)
        self.not_so("same", (0, "b"), (0, "a"), 0)

    def test_more(self):
        self.so("more", (0, "b"), (0, "a"), 2)
        self.so("more", (1, "c"), (0, "b"), -5)
        self.not_so("more", (0, "b"), (0, "a"), -2)
        self.not_so("more", (0, "b"), (0, "a"), 3)

    def test_places_that_are_not_there(self):
        self.so("told", (0, "c"), None, 4)
        self.so("told", (2, "a"), None, 4)
        self.so("told", (3, "a"), None, 4)
        self.so("told", (10 ** 30, "a"), None, 4)
        self.so("same", (1, "b"), (0, "a"), 0)
        self.so("same", (1, "a"), (0, "c"), 0)
        self.so("more", (9, "b"), (0, "a"), 1)
        self.so("more", (9, "b"), (8, "a"), 1)
        self.assertIs(holds(("told", (0, "a"), None, 4), []), True)
        self.assertIs(holds(("told", (0, "a"), None, 4), talk({})), True)

    def test_worths_of_nought_are_there(self):
        zero = talk({"a": 0}, {"a": 0, "b": 3})
        self.assertIs(holds(("told", (0, "a"), None, 1), zero), False)
        self.assertIs(holds(("same", (1, "a"), (0, "a"), 0), zero), True)
        self.assertIs(holds(("same", (1, "b"), (0, "a"), 0), zero), False)
        self.assertIs(holds(("more", (1, "b"), (1, "a"), 3), zero), True)

    def test_by_names(self):
        self.assertIs(holds(relation=("told", (0, "a"), None, 4), talk=self.TALK), False)
        self.assertIs(is_relation(thing=("told", (0, "a"), None, 4)), True)


class Found(unittest.TestCase):
    def so(self, talks, *wanted):
        ahead = copy.deepcopy(talks)
        told = found_in(talks)
        self.assertEqual(told, list(wanted))
        self.assertEqual(talks, ahead)
        for relation in told:
            self.assertIs(is_relation(relation), True)
        told.append(None)
        self.assertEqual(found_in(talks), list(wanted))

    def test_no_talks_and_talks_without_letters(self):
        self.so([])
        self.so([[]])
        self.so([[], []])
        self.so([talk({}), talk({}, {})])

    def test_one_talk_tells_all(self):
        self.so([talk({"b": 5, "a": 6}, {"a": 5})], ("told", (0, "a"), None, 6), ("told", (0, "b"), None, 5), ("told", (1, "a"), None, 5))

    def test_told_where_all_that_have_it_have_the_same(self):
        self.so([talk({"a": 5}), talk({"a": 5, "b": 1}), talk({}), []], ("told", (0, "a"), None, 5), ("told", (0, "b"), None, 1))
        self.so([talk({"a": 5}), talk({"a": 6})])

    def test_same(self):
        self.so([talk({"a": 5}, {"b": 5}), talk({"a": 6}, {"b": 6})], ("same", (1, "b"), (0, "a"), 0))
        self.so([talk({"a": 5, "b": 5}), talk({"a": 6, "b": 6})], ("same", (0, "b"), (0, "a"), 0))

    def test_more(self):
        self.so([talk({"a": 5}, {"b": 8}), talk({"a": 6}, {"b": 9})], ("more", (1, "b"), (0, "a"), 3))
        self.so([talk({"a": 5}, {"b": 1}), talk({"a": 6}, {"b": 2}), talk({"a": -6}, {"b": -10})], ("more", (1, "b"), (0, "a"), -4))
        self.so([talk({"a": 5}, {"b": 1}), talk({"a": 6}, {"b": 3})])

    def test_told_goes_ahead_of_same(self):
        self.so([talk({"a": 5}, {"b": 5}), talk({"a": 5}, {"b": 5})], ("told", (0, "a"), None, 5), ("told", (1, "b"), None, 5))

    def test_the_first_lesser_place_of_several(self):
        one = talk({"b": 5, "c": 5}, {"a": 5}, {"z": 5})
        two = talk({"b": 6, "c": 7}, {"a": 7}, {"z": 7})
        self.so([one, two], ("same", (1, "a"), (0, "c"), 0), ("same", (2, "z"), (0, "c"), 0))
        three = talk({"b": 9, "c": 9}, {"a": 9}, {"z": 10})
        self.so([one, two, three], ("same", (1, "a"), (0, "c"), 0))

    def test_more_by_an_earlier_place_goes_ahead_of_same_by_a_later_one(self):
        self.so([talk({"a": 4, "b": 5}, {"a": 5}), talk({"a": 6, "b": 7}, {"a": 7})],
                ("more", (0, "b"), (0, "a"), 1), ("more", (1, "a"), (0, "a"), 1))

    def test_a_lesser_place_that_all_these_have(self):
        self.so([talk({"a": 5}, {"b": 5}), talk({"a": 6}, {"b": 6}), talk({"c": 9}, {"b": 9})], ("told", (0, "c"), None, 9))
        self.so([talk({"a": 5, "d": 1}, {"b": 5}), talk({"a": 6, "d": 2}, {"b": 6}), talk({"a": 9})],
                ("more", (0, "d"), (0, "a"), -4), ("same", (1, "b"), (0, "a"), 0))

    def test_a_talk_more_takes_a_relation_away(self):
        talks = [talk({"a": 5}, {"b": 8}), talk({"a": 6}, {"b": 9})]
        self.so(talks + [talk({"a": 6}, {"b": 8})])
        self.so(talks + [talk({"a": 6})], ("more", (1, "b"), (0, "a"), 3))
        self.so(talks[:1] * 3, ("told", (0, "a"), None, 5), ("told", (1, "b"), None, 8))
        self.so(talks[:1] + [talk({"a": 5}, {"b": 9})], ("told", (0, "a"), None, 5))

    def test_places_are_sorted_by_number_then_word(self):
        letters = [{"ab": 1, "b": 1, "a": 1}] * 11
        self.assertEqual([relation[1] for relation in found_in([talk(*letters)])],
                         [(number, word) for number in range(11) for word in ("a", "ab", "b")])

    def test_sides_do_not_count(self):
        self.assertEqual(found_in([[(0, {"a": 1})], [(1, {"a": 1})]]), [("told", (0, "a"), None, 1)])

    def test_by_names(self):
        self.assertEqual(found_in(talks=[talk({"a": 1})]), [("told", (0, "a"), None, 1)])


class Worths(unittest.TestCase):
    TALK = talk({"a": 5, "b": 7}, {"c": 2})

    def so(self, worth, place, *given):
        given = list(given)
        ahead = list(given)
        self.assertEqual(worth_by(given, self.TALK, place), worth)
        self.assertEqual(worth_by(relations=given, talk=self.TALK, place=place), worth)
        self.assertEqual(given, ahead)

    def test_none(self):
        self.so(None, (2, "x"))
        self.so(None, (2, "x"), ("told", (2, "y"), None, 5), ("told", (1, "x"), None, 5))
        self.so(None, (2, "x"), ("same", (2, "x"), (0, "z"), 0), ("more", (2, "x"), (1, "a"), 4), ("same", (2, "x"), (2, "w"), 0))
        self.so(None, (9, "x"), ("same", (9, "x"), (8, "x"), 0))

    def test_each_sort(self):
        self.so(9, (2, "x"), ("told", (2, "x"), None, 9))
        self.so(0, (2, "x"), ("told", (2, "x"), None, 0), ("told", (2, "x"), None, 1))
        self.so(7, (2, "x"), ("same", (2, "x"), (0, "b"), 0))
        self.so(-1, (2, "x"), ("more", (2, "x"), (1, "c"), -3))

    def test_the_first_that_can_in_the_lists_order(self):
        lost = ("same", (2, "x"), (0, "z"), 0)
        told = ("told", (2, "x"), None, 9)
        more = ("more", (2, "x"), (0, "a"), 1)
        self.so(9, (2, "x"), told, more)
        self.so(6, (2, "x"), more, told)
        self.so(9, (2, "x"), lost, told, more)
        self.so(6, (2, "x"), lost, ("told", (2, "y"), None, 3), more, told)

    def test_by_what_is_found(self):
        talks = [talk({"a": 5}, {"b": 8}), talk({"a": 6}, {"b": 9})]
        self.assertEqual(worth_by(found_in(talks), talk({"a": 50}), (1, "b")), 53)
        self.assertIsNone(worth_by(found_in(talks), [], (1, "b")))
        self.assertIsNone(worth_by(found_in(talks), talk({"a": 50}), (0, "a")))


def draw_talks(chance):
    """Talks that are much alike, of fields that often hang on one another."""
    shape = [[word for word in "abcd" if chance.random() < 0.5] for _ in range(chance.randint(1, 4))]
    hung = {}
    places = [(number, word) for number, words in enumerate(shape) for word in words]
    for at, place in enumerate(places):
        sort = chance.choice(("told", "free", "same", "more"))
        hung[place] = (sort, chance.choice(places[:at]) if at else None, chance.choice((-2, 1, 3)))
    talks = []
    for _ in range(chance.randint(1, 4)):
        worths = {}
        for place in places:
            sort, other, much = hung[place]
            if sort == "told":
                worths[place] = much
            elif sort == "free" or other is None:
                worths[place] = chance.choice((0, 1, 2, 3, 4))
            else:
                worths[place] = worths[other] + (much if sort == "more" else 0)
        letters = [{word: worths[number, word] for word in words if chance.random() < 0.85} for number, words in enumerate(shape)]
        talks.append(talk(*letters[:chance.randint(0, len(letters)) if chance.random() < 0.3 else len(letters)]))
    return talks


def slow_worth(one, place):
    return dict(enumerate(fields for _, fields in one)).get(place[0], {}).get(place[1])


class Drawn(unittest.TestCase):
    def test_found_ones_hold_and_none_is_forgotten(self):
        chance = random.Random(200)
        many = {"told": 0, "same": 0, "more": 0}
        for _ in range(500):
            talks = draw_talks(chance)
            found = found_in(talks)
            for relation in found:
                self.assertTrue(all(holds(relation, one) for one in talks))
                many[relation[0]] += 1
            by_place = {relation[1]: relation for relation in found}
            self.assertEqual([relation[1] for relation in found], sorted(by_place))
            places = sorted({(number, word) for one in talks for number, (_, fields) in enumerate(one) for word in fields})
            self.assertLessEqual(set(by_place), set(places))
            for place in places:
                having = [one for one in talks if slow_worth(one, place) is not None]
                worths = [slow_worth(one, place) for one in having]
                good = [("told", place, None, worth) for worth in set(worths) if len(set(worths)) == 1]
                for other in [other for other in places if other < place and all(slow_worth(one, other) is not None for one in having)]:
                    for much in {worth - slow_worth(one, other) for worth, one in zip(worths, having)}:
                        relation = ("more" if much else "same", place, other, much)
                        if all(holds(relation, one) for one in talks):
                            good.append(relation)
                self.assertEqual(by_place.get(place), good[0] if good else None)
                for relation in good:
                    for one, worth in zip(having, worths):
                        self.assertEqual(worth_by([relation], one, place), worth)
                        self.assertEqual(worth_by(found, one, place), worth)
        self.assertGreater(min(many.values()), 90, many)

    def test_words_called_otherwise(self):
        chance = random.Random(201)
        for _ in range(150):
            talks = draw_talks(chance)
            named = [[(1 - side, {called(word): worth for word, worth in fields.items()}) for side, fields in one] for one in talks]
            wanted = [(word, (place[0], called(place[1])), other and (other[0], called(other[1])), much) for word, place, other, much in found_in(talks)]
            self.assertEqual(found_in(named), wanted)

    def test_the_order_of_dicts_does_not_count(self):
        chance = random.Random(202)
        for _ in range(100):
            talks = draw_talks(chance)
            turned = [[(side, dict(reversed(list(fields.items())))) for side, fields in one] for one in talks]
            self.assertEqual(found_in(turned), found_in(talks))
            self.assertEqual(found_in(talks[::-1]), found_in(talks))


class Places(unittest.TestCase):
    def test_stands_in_its_file(self):
        for name in ("is_relation", "holds", "found_in", "worth_by"):
            self.assertEqual(getattr(relations, name).__module__, "letterbench.relations")


if __name__ == "__main__":
    unittest.main()
