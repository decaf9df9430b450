"""Promises 23 and 3 (g): replays of a talk, against what was caught and against other things."""

import copy
import random
import unittest

from test_losses import called
from test_relations import draw_talks, talk
from letterbench import replay
from letterbench.errors import Away, Bare, NoCatch, NoLetter, NoNumber, NoRelation
from letterbench.relations import found_in, holds
from letterbench.replay import Replay, replayed

# One asks with an id, the other one answers with the same id and a key, the first one gives key and id back.
TALK = talk({"id": 7, "len": 3}, {"id": 7, "key": 40}, {"id": 8, "key": 41, "len": 3}, {"id": 8})
RELATIONS = [
    ("told", (0, "len"), None, 3),
    ("same", (1, "id"), (0, "id"), 0),
    ("more", (2, "id"), (0, "id"), 1),
    ("more", (2, "key"), (1, "key"), 1),
    ("same", (2, "len"), (0, "len"), 0),
    ("same", (3, "id"), (2, "id"), 0),
]
NO_FIELDS = (None, True, 5, "id", (), [], [("id", 5)], {"id": None}, {"id": True}, {"id": "5"}, {"id": (5,)}, {"": 5}, {"Id": 5}, {"idididids": 5},
             {5: 5}, {None: 5}, {("id",): 5}, {"id": 5, 0: 1}, {"a b": 1})


def answering(caught):
    """The end that was caught: it says what stands there, whatever it hears."""
    return lambda so_far: dict(caught[len(so_far)][1])


class Made(unittest.TestCase):
    def test_talks(self):
        for many in (0, 1, 2, 59, 60):
            letters = talk(*[{"a": 5}] * many)
            self.assertEqual(len(Replay(letters, [], 0)), 0)
        for thing in (None, True, 5, "talk", (), tuple(TALK), {}, talk(*[{"a": 5}] * 61), talk(*[{"a": 5}] * 60) + [None]):
            with self.assertRaises(NoCatch) as caught:
                Replay(thing, [], 0)
            self.assertIsNone(caught.exception.number)
            with self.assertRaises(NoCatch) as caught:
                replayed(thing, [], 0, None)
            self.assertIsNone(caught.exception.number)

    def test_letters(self):
        good = (0, {"a": 5})
        bad = [None, True, 5, "a", (), [], {}, [0, {}], (0,), ({},), (0, {}, 0), (2, {}), (-1, {}), (True, {}), (False, {}), (None, {}), ("0", {}), ({}, 0)]
        bad += [(0, fields) for fields in NO_FIELDS]
        for number in (0, 1, 2):
            for letter in bad:
                with self.assertRaises(NoCatch) as caught:
                    Replay([good] * number + [letter, letter, good], [], 0)
                self.assertEqual(caught.exception.number, number, letter)
        for fields in ({}, {"a": 0}, {"abcdefgh": -10 ** 40}, {"a": 5, "b": 5}):
            self.assertEqual(Replay([(1, fields)], [], 1).speak(), fields)

    def test_relations(self):
        for thing in (None, True, 5, "same", (), tuple(RELATIONS), {}, [None], RELATIONS + [None], RELATIONS + [("told",)], [list(RELATIONS[0])],
                      [("told", (0, "len"), None, 4)], RELATIONS + [("same", (1, "key"), (0, "id"), 0)], [("more", (2, "id"), (0, "id"), 2)]):
            with self.assertRaises(NoRelation):
                Replay(TALK, thing, 0)
            with self.assertRaises(NoRelation):
                replayed(TALK, thing, 0, answering(TALK))
        for thing in ([], RELATIONS, RELATIONS * 3, [("told", (9, "x"), None, 5)], [("same", (1, "key"), (0, "nought"), 0)]):
            self.assertEqual(Replay(TALK, thing, 1).relations(), thing)

    def test_sides(self):
        for side in (None, True, False, 2, -1, "0", (), [0], {}, 10 ** 40):
            with self.assertRaises(NoNumber):
                Replay(TALK, RELATIONS, side)
            with self.assertRaises(NoNumber):
                replayed(TALK, RELATIONS, side, answering(TALK))

    def test_the_order_of_refusals(self):
        with self.assertRaises(NoCatch):
            Replay([None], [None], None)
        with self.assertRaises(NoRelation):
            Replay(TALK, [None], None)
        with self.assertRaises(NoCatch):
            replayed(None, None, None, None)
        with self.assertRaises(NoRelation):
            replayed([], None, None, None)
        with self.assertRaises(NoNumber):
            replayed([], [], None, None)

    def test_by_names_and_nothing_handed_in_is_kept_or_changed(self):
        letters = copy.deepcopy(TALK)
        relations = list(RELATIONS)
        one = Replay(talk=letters, relations=relations, side=0)
        self.assertEqual((letters, relations), (TALK, RELATIONS))
        letters[0][1]["id"] = 99
        letters.clear()
        relations.clear()
        self.assertEqual(one.due(), ("says", 0))
        self.assertEqual(one.speak(), {"id": 7, "len": 3})
        self.assertEqual(one.relations(), RELATIONS)
        told = replayed(talk=TALK, relations=RELATIONS, side=0, answer=answering(TALK))
        self.assertEqual(told, (TALK, None))


class Due(unittest.TestCase):
    def test_each_letter_and_the_end(self):
        one = Replay(TALK, RELATIONS, 0)
        self.assertEqual(one.due(), ("says", 0))
        self.assertEqual(one.due(), ("says", 0))
        one.speak()
        self.assertEqual(one.due(), ("hears", 1))
        one.hear({"id": 7, "key": 50})
        self.assertEqual(one.due(), ("says", 2))
        one.speak()
        self.assertEqual(one.due(), ("hears", 3))
        one.hear({"id": 8})
        self.assertEqual(one.due(), ("over",))
        self.assertEqual(len(one), 4)

    def test_the_other_side(self):
        one = Replay(TALK, RELATIONS, 1)
        self.assertEqual(one.due(), ("hears", 0))
        one.hear({"id": 70, "len": 3})
        self.assertEqual(one.due(), ("says", 1))
        self.assertEqual(one.speak(), {"id": 70, "key": 40})

    def test_a_talk_without_letters_is_over(self):
        for side in (0, 1):
            self.assertEqual(Replay([], [], side).due(), ("over",))
            self.assertEqual(replayed([], [], side, None), ([], None))

    def test_bare_ahead_of_all_else(self):
        one = Replay(TALK, RELATIONS, 0)
        for fields in ({"id": 7, "len": 3}, None, {}):
            for anyway in (False, True):
                with self.assertRaises(Bare):
                    one.hear(fields, anyway=anyway)
        self.assertEqual((len(one), one.due(), one.talk(), one.sources()), (0, ("says", 0), [], []))
        one.speak()
        with self.assertRaises(Bare):
            one.speak()
        one.hear({"id": 7, "key": 50})
        one.speak()
        one.hear({"id": 8})
        with self.assertRaises(Bare):
            one.speak()
        with self.assertRaises(Bare):
            one.hear(None)
        self.assertEqual(len(one), 4)


class Spoken(unittest.TestCase):
    def test_each_field_by_its_relation(self):
        one = Replay(TALK, RELATIONS, 0)
        one.speak()
        one.hear({"id": 7, "key": 140})
        self.assertEqual(one.speak(), {"id": 8, "key": 141, "len": 3})
        self.assertEqual(one.sources(), [
            {"id": ("caught",), "len": ("relation", 0)},
            {"id": ("heard",), "key": ("heard",)},
            {"id": ("relation", 2), "key": ("relation", 3), "len": ("relation", 4)},
        ])
        self.assertEqual(one.talk(), [(0, {"id": 7, "len": 3}), (1, {"id": 7, "key": 140}), (0, {"id": 8, "key": 141, "len": 3})])

    def test_the_first_relation_that_can(self):
        letters = talk({"a": 5, "b": 5}, {"c": 5})
        given = [("same", (1, "c"), (0, "z"), 0), ("same", (1, "c"), (0, "b"), 0), ("same", (1, "c"), (0, "a"), 0), ("told", (1, "c"), None, 5)]
        for order, worth, number in ((given, 8, 1), (given[::-1], 5, 0), ([given[0], given[2], given[1]], 7, 1), ([given[0]], 5, None)):
            one = Replay(letters, order, 1)
            one.hear({"a": 7, "b": 8}, anyway=True)
            self.assertEqual(one.speak(), {"c": worth})
            self.assertEqual(one.sources()[1], {"c": ("caught",) if number is None else ("relation", number)})

    def test_by_lesser_words_of_the_same_letter(self):
        letters = talk({"x": 1}, {"c": 11, "a": 10, "b": 12})
        given = [("more", (1, "c"), (1, "b"), -1), ("more", (1, "b"), (1, "a"), 2), ("more", (1, "a"), (0, "x"), 9)]
        one = Replay(letters, given, 1)
        one.hear({"x": 100})
        told = one.speak()
        self.assertEqual(told, {"a": 109, "b": 111, "c": 110})
        self.assertEqual(list(told), ["a", "b", "c"])

    def test_the_other_one_is_not_there(self):
        letters = talk({"x": 1, "y": 2}, {"a": 1, "b": 2}, {"a": 2})
        given = [("same", (1, "a"), (0, "x"), 0), ("same", (1, "b"), (0, "y"), 0), ("more", (2, "a"), (1, "a"), 1)]
        one = Replay(letters, given, 1)
        one.hear({"y": 20, "z": 5}, anyway=True)
        self.assertEqual(one.speak(), {"a": 1, "b": 20})
        self.assertEqual(one.sources(), [{"y": ("heard",), "z": ("heard",)}, {"a": ("caught",), "b": ("relation", 1)}])
        one.hear({"a": 2})
        self.assertEqual(one.due(), ("over",))

    def test_by_a_word_that_was_heard_anyway_only(self):
        letters = talk({"x": 1}, {"a": 1})
        one = Replay(letters, [("more", (1, "a"), (0, "z"), 1)], 1)
        one.hear({"z": 50}, anyway=True)
        self.assertEqual(one.speak(), {"a": 51})
        self.assertEqual(one.sources()[1], {"a": ("relation", 0)})

    def test_by_what_it_said_itself(self):
        letters = [(0, {"a": 5}), (0, {"a": 6}), (0, {"a": 7})]
        one = Replay(letters, [("more", (2, "a"), (1, "a"), 1), ("more", (1, "a"), (0, "a"), 1)], 0)
        for worth in (5, 6, 7):
            self.assertEqual(one.speak(), {"a": worth})
        self.assertEqual(one.sources(), [{"a": ("caught",)}, {"a": ("relation", 1)}, {"a": ("relation", 0)}])

    def test_a_letter_without_fields(self):
        one = Replay(talk({}, {}), [], 0)
        self.assertEqual(one.speak(), {})
        one.hear({})
        self.assertEqual(one.talk(), [(0, {}), (1, {})])
        self.assertEqual(one.sources(), [{}, {}])

    def test_worths_of_nought(self):
        one = Replay(talk({"a": 0}, {"a": 0}), [("same", (1, "a"), (0, "a"), 0)], 1)
        one.hear({"a": 0})
        self.assertEqual(one.speak(), {"a": 0})
        self.assertEqual(one.sources()[1], {"a": ("relation", 0)})


class Heard(unittest.TestCase):
    def setUp(self):
        self.one = Replay(TALK, RELATIONS, 1)

    def away(self, fields, what, number=0, **more):
        ahead = self.one.twin()
        with self.assertRaises(Away) as caught:
            self.one.hear(fields, **more)
        self.assertEqual((caught.exception.number, caught.exception.what), (number, what))
        self.assertEqual(self.one, ahead)
        self.assertEqual(self.one.sources(), ahead.sources())

    def test_as_caught(self):
        self.assertIsNone(self.one.hear({"len": 3, "id": 7}))
        self.assertEqual(self.one.talk(), TALK[:1])
        self.assertEqual(self.one.sources(), [{"id": ("heard",), "len": ("heard",)}])

    def test_a_worth_on_which_no_relation_of_its_place_hangs(self):
        self.one.hear({"id": -900, "len": 3})
        self.assertEqual(self.one.speak(), {"id": -900, "key": 40})

    def test_words(self):
        self.away({"id": 7}, "fields")
        self.away({}, "fields")
        self.away({"id": 7, "len": 3, "more": 1}, "fields")
        self.away({"id": 7, "lem": 3}, "fields")
        self.away({"id": 7, "lem": 4}, "fields", anyway=False)

    def test_against_a_relation(self):
        self.away({"id": 7, "len": 4}, RELATIONS[0])
        self.one.hear({"id": 50, "len": 3})
        self.one.speak()
        self.away({"id": 50, "key": 41, "len": 3}, RELATIONS[2], 2)
        self.away({"id": 51, "key": 42, "len": 3}, RELATIONS[3], 2)
        self.away({"id": 52, "key": 42, "len": 3}, RELATIONS[2], 2)
        self.away({"id": 52, "key": 42, "len": 4}, RELATIONS[2], 2)
        self.one.hear({"id": 51, "key": 41, "len": 3})
        self.assertEqual(self.one.speak(), {"id": 51})

    def test_the_first_one_in_the_lists_order(self):
        letters = talk({"a": 5, "b": 5})
        given = [("told", (0, "b"), None, 5), ("same", (0, "b"), (0, "a"), 0), ("told", (0, "a"), None, 5)]
        for order in (given, given[::-1], [given[1], given[0], given[2]]):
            self.one = Replay(letters, order, 1)
            self.away({"a": 6, "b": 7}, order[0])
        self.one = Replay(letters, given, 1)
        self.away({"a": 6, "b": 5}, given[1])
        self.away({"a": 6, "b": 6}, given[0])

    def test_a_relation_whose_other_is_not_there(self):
        letters = talk({"x": 1}, {}, {"a": 1})
        self.one = Replay(letters, [("same", (2, "a"), (0, "x"), 0)], 1)
        self.one.hear({"y": 1}, anyway=True)
        self.one.speak()
        self.one.hear({"a": 99})
        self.assertEqual(self.one.talk(), [(0, {"y": 1}), (1, {}), (0, {"a": 99})])

    def test_a_relation_of_a_later_place_does_not_count(self):
        letters = [(0, {"a": 1}), (0, {"a": 2})]
        self.one = Replay(letters, [("more", (1, "a"), (0, "a"), 1)], 1)
        self.one.hear({"a": 7})
        self.away({"a": 2}, ("more", (1, "a"), (0, "a"), 1), 1)
        self.one.hear({"a": 8})

    def test_a_relation_of_an_earlier_place_that_was_broken_does_not_count(self):
        letters = [(0, {"a": 1}), (0, {"a": 2})]
        self.one = Replay(letters, [("told", (0, "a"), None, 1), ("told", (1, "a"), None, 2)], 1)
        self.one.hear({"a": 7}, anyway=True)
        self.away({"a": 1}, ("told", (1, "a"), None, 2), 1)
        self.one.hear({"a": 2})
        self.assertEqual(self.one.due(), ("over",))

    def test_anyway(self):
        for fields in ({}, {"id": 7, "len": 4}, {"other": 5}):
            one = Replay(TALK, RELATIONS, 1)
            self.assertIsNone(one.hear(fields, anyway=True))
            self.assertEqual(one.talk(), [(0, fields)])
            self.assertEqual(one.sources(), [{word: ("heard",) for word in fields}])
        with self.assertRaises(TypeError):
            Replay(TALK, RELATIONS, 1).hear({}, True)

    def test_what_are_no_fields(self):
        for number in (0, 2):
            for fields in NO_FIELDS:
                for anyway in (False, True):
                    with self.assertRaises(NoLetter) as caught:
                        self.one.hear(fields, anyway=anyway)
                    self.assertEqual(caught.exception.number, number)
            self.assertEqual(len(self.one), number)
            self.one.hear(dict(TALK[number][1]))
            self.one.speak()

    def test_by_names(self):
        self.one.hear(fields={"id": 7, "len": 3}, anyway=False)
        self.assertEqual(len(self.one), 1)


class Objects(unittest.TestCase):
    def test_what_is_told_is_the_askers_own(self):
        one = Replay(TALK, RELATIONS, 1)
        fields = {"id": 7, "len": 3}
        one.hear(fields)
        fields["id"] = 99
        said = one.speak()
        said["id"] = 99
        wanted = (one.talk(), one.sources(), one.relations())
        self.assertEqual(wanted[0], TALK[:2])
        for told in (one.talk(), one.sources(), one.relations()):
            told.append(None)
        one.talk()[0][1]["id"] = 99
        one.sources()[0]["id"] = 99
        self.assertEqual((one.talk(), one.sources(), one.relations()), wanted)
        earlier = one.talk()
        one.hear({"id": 8, "key": 41, "len": 3})
        self.assertEqual(earlier, TALK[:2])

    def test_length(self):
        one = Replay(TALK, RELATIONS, 0)
        for many in range(4):
            self.assertEqual(len(one), many)
            if one.due()[0] == "says":
                one.speak()
            else:
                one.hear(TALK[many][1])
        self.assertEqual(len(one), 4)

    def test_alike(self):
        one = Replay(TALK, RELATIONS, 0)
        self.assertTrue(one == Replay(copy.deepcopy(TALK), list(RELATIONS), 0))
        self.assertFalse(one != Replay(TALK, RELATIONS, 0))
        self.assertFalse(one == Replay(TALK, RELATIONS, 1))
        self.assertFalse(one == Replay(TALK, RELATIONS[::-1], 0))
        self.assertFalse(one == Replay(TALK, RELATIONS[:-1], 0))
        self.assertFalse(one == Replay(TALK[:-1], RELATIONS, 0))
        self.assertFalse(one == Replay(TALK[:-1] + [(0, {"id": 8})], RELATIONS, 0))
        other = Replay(TALK, RELATIONS, 0)
        other.speak()
        self.assertFalse(one == other)
        one.speak()
        self.assertTrue(one == other)
        one.hear({"id": 7, "key": 5})
        other.hear({"id": 7, "key": 6})
        self.assertFalse(one == other)

    def test_alike_whencever_fields_came(self):
        letters = talk({"x": 5}, {"a": 5})
        given = [("same", (1, "a"), (0, "x"), 0)]
        one = Replay(letters, given, 1)
        other = Replay(letters, given, 1)
        one.hear({"x": 5})
        other.hear({"x": 5}, anyway=True)
        one.speak()
        other.speak()
        self.assertTrue(one == other)

    def test_beside_other_things(self):
        one = Replay(TALK, RELATIONS, 0)
        for thing in (None, 0, TALK, RELATIONS, (), "replay", object()):
            self.assertIs(one == thing, False)
            self.assertIs(one != thing, True)

    def test_twins(self):
        one = Replay(TALK, RELATIONS, 1)
        one.hear({"id": 50, "len": 3})
        twin = one.twin()
        self.assertTrue(one == twin)
        self.assertEqual(twin.sources(), one.sources())
        twin.speak()
        self.assertEqual((len(one), len(twin)), (1, 2))
        one.speak()
        one.hear({"id": 51, "key": 41, "len": 3})
        twin.hear({"word": 5}, anyway=True)
        self.assertFalse(one == twin)
        self.assertEqual(one.speak(), {"id": 51})
        self.assertEqual(twin.speak(), {"id": 8})
        self.assertEqual(Replay([], [], 0).twin(), Replay([], [], 0))


class Replayed(unittest.TestCase):
    def test_against_the_caught_end(self):
        for side in (0, 1):
            self.assertEqual(replayed(TALK, RELATIONS, side, answering(TALK)), (TALK, None))
            self.assertEqual(replayed(TALK, [], side, answering(TALK)), (TALK, None))

    def test_the_def_is_told_the_talk_so_far(self):
        seen = []

        def answer(so_far):
            seen.append(copy.deepcopy(so_far))
            fields = dict(TALK[len(so_far)][1])
            so_far[0][1]["id"] = 1000
            so_far.clear()
            return fields

        self.assertEqual(replayed(TALK, RELATIONS, 0, answer), (TALK, None))
        self.assertEqual(seen, [TALK[:1], TALK[:3]])

    def test_against_one_that_says_another_thing(self):
        def answer(so_far):
            return {"id": so_far[0][1]["id"], "key": 99} if len(so_far) == 1 else {"id": 8}

        self.assertEqual(replayed(TALK, RELATIONS, 0, answer)[0][2], (0, {"id": 8, "key": 100, "len": 3}))
        self.assertIsNone(replayed(TALK, RELATIONS, 0, answer)[1])
        so_far = [(0, {"id": 7, "len": 3})]
        self.assertEqual(replayed(TALK, RELATIONS, 0, lambda _: {"id": 6, "key": 1}), (so_far, (1, RELATIONS[1])))
        self.assertEqual(replayed(TALK, RELATIONS, 0, lambda _: {"id": 7}), (so_far, (1, "fields")))
        self.assertEqual(replayed(TALK, RELATIONS, 1, lambda _: {}), ([], (0, "fields")))

    def test_what_is_no_fields(self):
        with self.assertRaises(NoLetter) as caught:
            replayed(TALK, RELATIONS, 0, lambda _: None)
        self.assertEqual(caught.exception.number, 1)

    def test_what_the_def_raises_goes_on(self):
        for error in (KeyError("x"), Away(5, "fields"), Bare("y"), NoLetter(3), StopIteration()):
            def answer(_, raised=error):
                raise raised

            with self.assertRaises(type(error)) as caught:
                replayed(TALK, RELATIONS, 0, answer)
            self.assertIs(caught.exception, error)

    def test_the_answers_dict_stays_and_is_not_kept(self):
        kept = []

        def answer(so_far):
            kept.append(dict(TALK[len(so_far)][1]))
            return kept[-1]

        told = replayed(TALK, RELATIONS, 0, answer)
        self.assertEqual(kept, [TALK[1][1], TALK[3][1]])
        kept[0]["id"] = 99
        self.assertEqual(told, (TALK, None))


def slow_said(caught, given, number, so_far):
    """The fields of a said letter, looked up place by place."""
    known = {(at, word): worth for at, (_, fields) in enumerate(so_far) for word, worth in fields.items()}
    for word in sorted(caught[number][1]):
        worth = caught[number][1][word]
        for sort, place, other, much in reversed(given):
            if place == (number, word) and (other is None or other in known):
                worth = much if other is None else known[other] + much
        known[number, word] = worth
    return {word: known[number, word] for word in caught[number][1]}


class Drawn(unittest.TestCase):
    def test_against_the_caught_end_and_against_others(self):
        chance = random.Random(230)
        many = {"away": 0, "whole": 0, "other": 0}
        for _ in range(300):
            talks = [[(chance.randint(0, 1), fields) for _, fields in one] for one in draw_talks(chance)]
            given = [relation for relation in found_in(talks) if chance.random() < 0.9]
            chance.shuffle(given)
            for caught in talks:
                side = chance.randint(0, 1)
                self.assertEqual(replayed(caught, given, side, answering(caught)), (caught, None))

                def answer(so_far, caught=caught):
                    fields = dict(caught[len(so_far)][1])
                    for word in fields:
                        if chance.random() < 0.3:
                            fields[word] += chance.randint(0, 2)
                    return fields

                told, away = replayed(caught, given, side, answer)
                for number, (sayer, fields) in enumerate(told):
                    self.assertEqual(sayer, caught[number][0])
                    if sayer == side:
                        self.assertEqual(fields, slow_said(caught, given, number, told[:number]))
                many["away" if away else "whole"] += 1
                many["other"] += told != caught[:len(told)]
                if away:
                    self.assertEqual(len(told), away[0])
                    self.assertIn(away[1], given)
                else:
                    self.assertEqual(len(told), len(caught))
                    self.assertTrue(all(holds(relation, told) for relation in given if caught[relation[1][0]:] and caught[relation[1][0]][0] != side))
        self.assertGreater(min(many.values()), 50, many)

    def test_words_called_otherwise_and_sides_exchanged(self):
        chance = random.Random(231)
        for _ in range(150):
            caught = draw_talks(chance)[0]
            given = found_in([caught])[::2]
            other = [(1 - side, {called(word): worth for word, worth in fields.items()}) for side, fields in caught]
            other_given = [(word, (place[0], called(place[1])), to and (to[0], called(to[1])), much) for word, place, to, much in given]
            one = Replay(caught, given, 0)
            named = Replay(other, other_given, 1)
            while one.due() != ("over",):
                self.assertEqual(one.due(), named.due())
                if one.due()[0] == "says":
                    self.assertEqual({called(word): worth for word, worth in one.speak().items()}, named.speak())
                else:
                    fields = {word: worth + chance.randint(0, 1) for word, worth in caught[len(one)][1].items()}
                    one.hear(fields, anyway=True)
                    named.hear({called(word): worth for word, worth in fields.items()}, anyway=True)
            self.assertEqual([{called(word): whence for word, whence in letter.items()} for letter in one.sources()], named.sources())


class Places(unittest.TestCase):
    def test_stand_in_their_file(self):
        for name in ("Replay", "replayed"):
            self.assertEqual(getattr(replay, name).__module__, "letterbench.replay")
        for name in ("due", "speak", "hear", "talk", "sources", "relations", "twin", "__len__", "__eq__"):
            self.assertIn(name, vars(Replay))


if __name__ == "__main__":
    unittest.main()
