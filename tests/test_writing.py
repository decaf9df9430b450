"""Promise 9: letters written from their fields, and the first field that lacks or doesn't fit."""

import copy
import random
import unittest

from handmade import DATA, LETTER, POST, SHELL, fields, post
from lettermaker import draw_bytes
from test_losses import called, drawn, field_called, fields_called
from letterbench import writing
from letterbench.errors import NoKind, NoWorth
from letterbench.grammars import look_at_grammar
from letterbench.reading import fields_in, spreads_of
from letterbench.writing import written

OUT = object()


def put(tree, path, worth):
    """Puts a worth into fields at a path, or takes it out; a choice's and a room's tuples are gone through."""
    inner = tree
    for step in path[:-1]:
        inner = inner[step]
        if isinstance(inner, tuple):
            inner = inner[1]
    if worth is OUT:
        del inner[path[-1]]
    else:
        inner[path[-1]] = worth
    return tree


class Cases(unittest.TestCase):
    def refused(self, grammar, tree, path, kind=None):
        before = copy.deepcopy(tree)
        with self.assertRaises(NoWorth) as caught:
            written(grammar, tree, kind=kind)
        self.assertEqual(caught.exception.path, path)
        self.assertIsInstance(caught.exception.path, tuple)
        self.assertEqual(tree, before)

    def refuse(self, *changes, path=None):
        """The letter with these (path, worth) put otherwise is refused at the first one's path, or at this one."""
        tree = fields()
        for place, worth in changes:
            put(tree, place, worth)
        self.refused(POST, tree, path or changes[0][0])

    def refuse_in(self, some, tree, path):
        """Of a kind with a number n from 0 to 9 and these fields."""
        grammar = (("top", (("number", "n", 1, "big", 0, 9),) + some), ("one", (("bytes", "b", ("is", 1)),)))
        self.assertIsNone(look_at_grammar(grammar))
        self.refused(grammar, tree, path)


class GoodLetters(unittest.TestCase):
    def test_by_hand(self):
        tree = fields()
        self.assertEqual(written(POST, tree), LETTER)
        self.assertEqual(tree, fields())

    def test_tells_a_tuple_of_bytes(self):
        told = written(POST, fields())
        self.assertIsInstance(told, tuple)
        self.assertEqual([type(byte) for byte in told], [int] * len(LETTER))

    def test_without_sums(self):
        tree = fields()
        for path in (("check",), ("outer", "own"), ("outer", "core", "plain")):
            put(tree, path, OUT)
            self.assertEqual(written(POST, tree), LETTER)

    def test_names_that_are_no_fields_are_passed_over(self):
        tree = fields()
        put(tree, ("body", "list", 0, "other"), None)
        put(tree, ("body", "check"), 5)
        put(tree, ("outer", "core", "own"), "x")
        tree.update({"nothing": 3, "": 1, 7: 8, None: [], ("len",): 2, "raw": (1,)})
        self.assertEqual(written(POST, tree), LETTER)

    def test_another_way(self):
        tree = fields()
        tree.update({"sort": 5, "body": ("ping", {"id": 259, "pad": (77, 78)})})
        del tree["check"]
        self.assertEqual(written(POST, tree), post((3, 1, 77, 78), sort=5))

    def test_by_a_kind(self):
        self.assertEqual(written(POST, {"id": 1000, "pad": (0, 255)}, kind="ping"), (232, 3, 0, 255))
        self.assertEqual(written(POST, fields()["outer"][1], kind="shell"), SHELL)
        self.assertEqual(written(POST, fields()["body"][1], kind="data"), DATA)
        self.assertEqual(written(POST, fields(), kind="post"), LETTER)
        self.assertEqual(written(POST, fields(), kind=None), LETTER)

    def test_numbers_in_both_orders_and_bits(self):
        grammar = (("top", (("number", "a", 4, "big", 0, 2 ** 32 - 1), ("number", "b", 3, "small", 0, 2 ** 24 - 1),
                            ("bits", (("x", 1), ("y", 2), ("z", 5))))),)
        tree = {"a": 0x01020304, "b": 0x030201, "x": 1, "y": 1, "z": 26}
        self.assertEqual(written(grammar, tree), (1, 2, 3, 4, 1, 2, 3, 0b10111010))

    def test_rows_and_lengths_to_the_rest(self):
        grammar = (("top", (("row", "r", "word", ("rest",)), ("sum", "s", "plain"))), ("word", (("text", "t", 0),)))
        self.assertEqual(written(grammar, {"r": []}), (0,))
        self.assertEqual(written(grammar, {"r": [{"t": ()}, {"t": (7, 8)}]}), (0, 7, 8, 0, 15))
        grammar = (("top", (("carried", "c", ("rest",), "word"),)), ("word", (("text", "t", 0),)))
        self.assertEqual(written(grammar, {"c": ("word", {"t": (7, 8)})}), (7, 8, 0))

    def test_of_no_bytes(self):
        grammar = (("top", (("bytes", "a", ("is", 0)), ("bytes", "b", ("rest",)))),)
        self.assertEqual(written(grammar, {"a": (), "b": ()}), ())

    def test_drawn_ones_there_and_back(self):
        for grammar, letter, tree in drawn(11, 500):
            self.assertEqual(written(grammar, tree), letter)
            self.assertEqual(written(grammar, fields_in(grammar, letter)), letter)
            self.assertEqual(fields_in(grammar, written(grammar, tree)), tree)

    def test_drawn_ones_without_sums_and_with_other_names(self):
        def bare(tree):
            if isinstance(tree, dict):
                return {**{name: bare(worth) for name, worth in tree.items() if name != "s"}, "zz": None}
            if isinstance(tree, list):
                return [bare(thing) for thing in tree]
            if isinstance(tree, tuple) and len(tree) == 2 and isinstance(tree[1], dict):
                return (tree[0], bare(tree[1]))
            return tree
        for grammar, letter, tree in drawn(12, 200):
            self.assertEqual(written(grammar, bare(tree)), letter)

    def test_names_called_otherwise_write_the_same(self):
        for grammar, letter, tree in drawn(13, 100):
            other = tuple((called(name), tuple(map(field_called, inner))) for name, inner in grammar)
            self.assertEqual(written(other, fields_called(tree)), letter)


class OneThingOtherwise(Cases):
    def test_what_lacks(self):
        for path in (("ver",), ("sort",), ("flags",), ("len",), ("body",), ("body", "many"), ("body", "list"),
                     ("body", "list", 0, "key"), ("body", "list", 1, "val"), ("body", "note"), ("outer",),
                     ("outer", "size"), ("outer", "core"), ("outer", "core", "raw"), ("tail",)):
            self.refuse((path, OUT))
            self.refuse((path, None))

    def test_no_fields_at_all(self):
        self.refused(POST, {}, ("ver",))
        self.refused(POST, {}, ("id",), kind="ping")
        for thing in (None, [], (), "fields", 5, ("post", {})):
            self.refused(POST, thing, ())

    def test_numbers(self):
        for path, least, most in ((("len",), 0, 20), (("body", "list", 1, "key"), 3, 10), (("outer", "size"), 0, 40)):
            for worth in (least - 1, most + 1, -1, 256, 2 ** 40, True, False, "3", (3,), [3], {}):
                self.refuse((path, worth))

    def test_numbers_at_their_bounds(self):
        grammar = (("top", (("number", "n", 2, "small", 5, 300),)),)
        self.assertEqual(written(grammar, {"n": 5}), (5, 0))
        self.assertEqual(written(grammar, {"n": 300}), (44, 1))
        for worth in (4, 301):
            self.refused(grammar, {"n": worth}, ("n",))

    def test_parts(self):
        for path, most in ((("ver",), 3), (("sort",), 7), (("flags",), 7)):
            for worth in (-1, most + 1, True, None, "1", (1,)):
                self.refuse((path, worth))
        for worth in (0, 3):
            tree = fields()
            tree["ver"] = worth
            del tree["check"]
            self.assertEqual(written(POST, tree), post(DATA, ver=worth))

    def test_bytes(self):
        for worth in ((7, 8), (7, 8, 9, 10), (), (1, 2, 256), (1, 2, -1), (1, 2, True), [1, 2, 3], b"abc", "abc", 3, None):
            self.refuse_in((("bytes", "b", ("is", 3)),), {"n": 1, "b": worth}, ("b",))
            self.refuse_in((("bytes", "b", ("of", "n", 3, 0)),), {"n": 1, "b": worth}, ("b",))
        for worth in ((1, 2, 256), (True,), [], [1], b"", "", 0, None, ((1, 2),)):
            self.refuse((("tail",), worth))

    def test_bytes_whose_length_is_below_nought(self):
        for worth in ((), (1,)):
            self.refuse_in((("bytes", "b", ("of", "n", 1, -2)),), {"n": 1, "b": worth}, ("b",))

    def test_texts(self):
        for worth in ((10,), (1, 10), (10, 1), (1, 10, 2), (256,), (True,), [1], "text", b"text", 1, None):
            self.refuse((("body", "note"), worth))

    def test_choices(self):
        ping = {"id": 1, "pad": (1, 2)}
        data = fields()["body"][1]
        for worth in (("ping", ping), ("data",), ("data", data, 1), ("data", None), ("data", []), ["data", data], data,
                      "data", None, 0, (), (None, data), (data, "data"), ("shell", data), ("nothing", {})):
            self.refuse((("body",), worth))

    def test_another_tag(self):
        self.refuse((("sort",), 0), path=("body",))
        self.refuse((("sort",), 5), path=("body",))
        self.refuse((("sort",), 2), path=("body",))
        self.refuse((("sort",), 2), (("body",), (None, {})), path=("body",))
        self.refuse((("sort",), 2), (("body",), OUT), path=("body",))

    def test_rows(self):
        pairs = fields()["body"][1]["list"]
        for worth in ([], pairs[:1], pairs + pairs[:1], tuple(pairs), {0: pairs[0], 1: pairs[1]}, None, 2, "ab", {}):
            self.refuse((("body", "list"), worth))
        self.refuse((("body", "many"), 1), path=("body", "list"))
        self.refuse((("body", "many"), 3), path=("body", "list"))

    def test_things_of_rows(self):
        for number in (0, 1):
            for worth in (None, [], (), ("pair", {"key": 3, "val": ()}), 5, "x", True):
                self.refuse((("body", "list", number), worth))
            self.refuse((("body", "list", number), {}), path=("body", "list", number, "key"))
            self.refuse((("body", "list", number, "key"), 5), path=("body", "list", number, "val"))

    def test_things_of_rows_to_the_rest(self):
        grammar = (("top", (("row", "r", "pair", ("rest",)),)), POST[3])
        good = {"key": 3, "val": ()}
        self.refused(grammar, {"r": [good, good, 5]}, ("r", 2))
        self.refused(grammar, {"r": [good, {"key": 4, "val": ()}, 5]}, ("r", 1, "val"))
        self.refused(grammar, {"r": (good,)}, ("r",))
        self.refused(grammar, {}, ("r",))

    def test_rooms(self):
        shell = fields()["outer"][1]
        for worth in (("core", shell), ("data", shell), ("shell",), ("shell", shell, 0), ("shell", [shell]), ("shell", None),
                      ["shell", shell], shell, None, 1, "shell", ()):
            self.refuse((("outer",), worth))

    def test_lengths_of_rooms(self):
        self.refuse((("len",), 2), path=("outer",))
        self.refuse((("len",), 4), path=("outer",))
        self.refuse((("outer", "size"), 3), path=("outer", "core"))
        self.refuse((("outer", "core", "raw"), (50, 60)), path=("outer", "core", "plain"))
        self.refuse((("outer", "core", "raw"), (60, 60, 60, 0)), path=("outer", "core"))
        room = ("carried", "c", ("is", 2), "one")
        self.refuse_in((room,), {"n": 1, "c": ("one", {"b": (1,)})}, ("c",))
        room = ("carried", "c", ("of", "n", 1, -2), "one")
        self.refuse_in((room,), {"n": 1, "c": ("one", {"b": (1,)})}, ("c",))

    def test_sums(self):
        for path in (("check",), ("outer", "own"), ("outer", "core", "plain")):
            for worth in (0, -1, 256, 65536, None, True, "180", (180,), (0, 180), []):
                self.refuse((path, worth))

    def test_a_truth_is_no_sum(self):
        grammar = (("top", (("bytes", "b", ("is", 1)), ("sum", "s", "plain"))),)
        self.assertEqual(written(grammar, {"b": (1,), "s": 1}), (1, 1))
        self.refused(grammar, {"b": (1,), "s": True}, ("s",))
        self.refused(grammar, {"b": (0,), "s": False}, ("s",))

    def test_what_was_read_without_a_way(self):
        letter = (0b10010101,) + LETTER[1:]
        self.refused(POST, fields_in(POST, letter), ("body",))


class TwoThingsOtherwise(Cases):
    def test_the_first_one_in_the_fields_order(self):
        paths = [("ver",), ("sort",), ("flags",), ("len",), ("body", "many"), ("body", "list", 0, "key"),
                 ("body", "list", 0, "val"), ("body", "list", 1, "key"), ("body", "list", 1, "val"), ("body", "note"),
                 ("outer", "size"), ("outer", "core", "raw"), ("outer", "core", "plain"), ("outer", "own"), ("tail",),
                 ("check",)]
        for number, first in enumerate(paths):
            for second in paths[number + 1:]:
                self.refuse((first, -1), (second, -1))
                self.refuse((first, None), (second, -1))

    def test_a_dicts_order_tells_nothing(self):
        tree = {name: worth for name, worth in reversed(list(fields().items()))}
        self.assertEqual(written(POST, tree), LETTER)
        tree["tail"] = None
        tree["flags"] = 8
        self.refused(POST, tree, ("flags",))

    def test_a_rows_count_ahead_of_its_things(self):
        self.refuse((("body", "many"), 3), (("body", "list", 0), None), path=("body", "list"))
        self.refuse((("body", "list", 0), None), (("body", "list", 1), None))
        self.refuse((("body", "list", 1, "key"), 99), (("body", "note"), None))

    def test_a_rooms_length_behind_what_is_within(self):
        self.refuse((("outer", "core", "raw"), None), (("len",), 4))
        self.refuse((("outer", "own"), 0), (("len",), 4))
        self.refuse((("outer", "size"), 3), (("outer", "core", "plain"), 0), path=("outer", "core", "plain"))
        self.refuse((("outer", "size"), 3), (("outer", "own"), 0), path=("outer", "core"))
        self.refuse((("len",), 4), (("tail",), None), path=("outer",))

    def test_a_rooms_kind_ahead_of_what_is_within(self):
        self.refuse((("outer",), ("core", {})))
        self.refuse((("sort",), 0), (("body", "many"), 9), path=("body",))

    def test_a_tag_ahead_of_what_hangs_on_it(self):
        self.refuse((("len",), 21), (("outer",), None))
        self.refuse((("sort",), 8), (("body",), None))


class DrawnOtherwise(Cases):
    def places(self, table, kind, tree, path):
        """The paths of a thing's fields, in the fields' order, those within a field behind it."""
        found = []
        for field in table[kind]:
            if field[0] == "bits":
                found += [path + (name,) for name, _ in field[1]]
                continue
            here = path + (field[1],)
            found.append(here)
            if field[0] == "row":
                for number, thing in enumerate(tree[field[1]]):
                    found.append(here + (number,))
                    found += self.places(table, field[2], thing, here + (number,))
            elif field[0] in ("choice", "carried"):
                inner, thing = tree[field[1]]
                found += self.places(table, inner, thing, here)
        return found

    def test_one_and_two_fields_put_otherwise(self):
        chance = random.Random(21)
        for grammar, _, tree in drawn(22, 400):
            places = self.places(dict(grammar), grammar[0][0], tree, ())
            picked = [places[at] for at in sorted(chance.sample(range(len(places)), min(2, len(places))))]
            for path in reversed(picked):
                put(tree, path, chance.choice(("x", None, -1, True, (256,))))
            self.refused(grammar, tree, picked[0])


class HandedIn(unittest.TestCase):
    def test_by_names(self):
        self.assertEqual(written(grammar=POST, fields=fields(), kind=None), LETTER)
        self.assertEqual(written(fields=fields(), grammar=POST), LETTER)
        with self.assertRaises(TypeError):
            written(POST, fields(), "post")

    def test_fields_stay(self):
        tree = fields()
        del tree["check"]
        before = copy.deepcopy(tree)
        written(POST, tree)
        self.assertEqual(tree, before)

    def test_no_kind(self):
        for kind in ("nothing", "", 0, False, ("post",), []):
            with self.assertRaises(NoKind) as caught:
                written(POST, fields(), kind=kind)
            self.assertIs(caught.exception.name, kind)

    def test_what_is_no_fields_goes_ahead_of_no_kind(self):
        with self.assertRaises(NoWorth):
            written(POST, None, kind="nothing")

    def test_stands_in_its_file(self):
        self.assertEqual(writing.written.__module__, "letterbench.writing")


class WhatIsWrittenReadsBack(unittest.TestCase):
    def test_worths_of_ones_own(self):
        chance = random.Random(23)
        grammar = (("top", (("number", "n", 1, "big", 0, 30), ("bytes", "b", ("of", "n", 2, 1)),
                            ("text", "t", 7), ("row", "r", "one", ("rest",)), ("sum", "s", "mixed"))),
                   ("one", (("bits", (("x", 4), ("y", 4))), ("sum", "s", "placed"))))
        for _ in range(100):
            number = chance.randint(0, 30)
            tree = {
                "n": number,
                "b": draw_bytes(chance, 2 * number + 1),
                "t": tuple(byte for byte in draw_bytes(chance, 9) if byte != 7),
                "r": [{"x": chance.randrange(16), "y": chance.randrange(16)} for _ in range(chance.randrange(5))],
            }
            some = written(grammar, tree)
            told = fields_in(grammar, some)
            self.assertEqual(told.pop("s"), spreads_of(grammar, some)[-1][4])
            for thing in told["r"]:
                thing.pop("s")
            self.assertEqual(told, tree)


if __name__ == "__main__":
    unittest.main()
