"""Promise 12: filters looked at, and whether they take bytes."""

import unittest

from letterbench import filters
from letterbench.errors import NoFilter, NoGrammar
from letterbench.filters import look_at_filter, takes
from letterbench.grammars import look_at_grammar

BYTE = ("number", "n", 1, "big", 0, 9)
GRAMMAR = (
    ("top", (
        ("number", "n", 1, "big", 1, 200),
        ("bits", (("hi", 3), ("lo", 5))),
        ("bytes", "pad", ("of", "n", 1, -2)),
        ("number", "m", 2, "small", 10, 1000),
        ("choice", "c", "lo", ((0, "one"), (1, "two"), (2, "one"), (3, "all"))),
    )),
    ("one", (("number", "x", 1, "big", 0, 9), ("bytes", "b", ("is", 2)), ("choice", "d", "x", ((4, "low"), (5, "two"))))),
    ("two", (("number", "x", 2, "big", 100, 500), ("text", "t", 0), ("number", "y", 1, "big", 0, 255))),
    ("all", (("bytes", "z", ("rest",)),)),
    ("low", (("bits", (("u", 4), ("v", 4))), ("choice", "e", "v", ((1, "end"),)))),
    ("end", (("number", "w", 1, "big", 7, 8), ("choice", "f", "w", ((7, "last"),)))),
    ("last", (("number", "k", 1, "big", 0, 255),)),
)
# n 3, hi 5, lo 2, one byte, m 300, way one: x 4, two bytes, way low: u 9, v 1, way end: w 7, way last: k 66.
LETTER = (3, 0b10100010, 77, 44, 1, 4, 8, 9, 0x91, 7, 66)


class Cases(unittest.TestCase):
    def looked(self, wish, grammar=GRAMMAR):
        self.assertIsNone(look_at_filter(grammar, wish))

    def no_filter(self, thing, grammar=GRAMMAR):
        with self.assertRaises(NoFilter):
            look_at_filter(grammar, thing)
        with self.assertRaises(NoFilter):
            takes(grammar, thing, LETTER)

    def no_path(self, path, grammar=GRAMMAR):
        self.no_filter(("is", path, "same", 1), grammar)
        self.no_filter(("there", path), grammar)

    def path(self, path, grammar=GRAMMAR):
        self.looked(("is", path, "same", 1), grammar)
        self.looked(("there", path), grammar)

    def taken(self, wish, some, truth, grammar=GRAMMAR):
        self.assertIs(takes(grammar, wish, some), truth)
        self.assertIs(takes(grammar, ("not", wish), some), not truth)


class Forms(Cases):
    def test_the_grammar_is_one(self):
        self.assertIsNone(look_at_grammar(GRAMMAR))

    def test_each_sort(self):
        self.looked(("yes",))
        for word in ("same", "less", "more"):
            for worth in (0, 1, 255, 10 ** 50):
                self.looked(("is", ("m",), word, worth))
        self.looked(("there", ("hi",)))
        for kind, _ in GRAMMAR:
            self.looked(("kind", ("c",), kind))
        self.looked(("not", ("yes",)))
        self.looked(("and", ("yes",), ("there", ("n",))))
        self.looked(("or", ("kind", ("c",), "one"), ("not", ("yes",))))

    def test_things_of_other_kinds(self):
        for thing in (None, True, 0, 5, "yes", b"yes", [], ["yes"], {}, (), ((),), (None,), (5,), ("no",), ("",), ("YES",),
                      (["yes"],), (("yes",),), ({},), (b"yes",), object(), frozenset(["yes"]), ("take",), ("same",)):
            self.no_filter(thing)
            self.no_filter(("not", thing))
            self.no_filter(("and", thing, ("yes",)))
            self.no_filter(("or", ("yes",), thing))

    def test_too_few_or_many_things(self):
        yes = ("yes",)
        for thing in (("yes", 1), ("yes", yes), ("is",), ("is", ("n",)), ("is", ("n",), "same"), ("is", ("n",), "same", 1, 1),
                      ("there",), ("there", ("n",), ("n",)), ("kind", ("c",)), ("kind", ("c",), "one", "two"), ("not",),
                      ("not", yes, yes), ("and",), ("and", yes), ("and", yes, yes, yes), ("or",), ("or", yes),
                      ("or", yes, yes, yes), ["not", yes], ("kind", "one", ("c",)), ("is", "same", ("n",), 1)):
            self.no_filter(thing)

    def test_words_of_is(self):
        for word in ("is", "", "Same", "equal", None, 0, True, ("same",), ["same"], "sam", {}, b"same"):
            self.no_filter(("is", ("n",), word, 1))

    def test_worths_of_is(self):
        for worth in (-1, -10 ** 40, True, False, None, "1", (1,), [1], {}, ()):
            self.no_filter(("is", ("n",), "same", worth))

    def test_kinds_of_kind(self):
        for kind in ("none", "", "c", None, 0, True, ("one",), ["one"], {}, "One", b"one"):
            self.no_filter(("kind", ("c",), kind))

    def test_no_grammar_goes_ahead(self):
        for grammar in (None, (), [], "g", GRAMMAR[:1], GRAMMAR + (5,), 3, {}):
            for wish in (("yes",), None, ("is", ("n",), "same", -1)):
                with self.assertRaises(NoGrammar) as one:
                    look_at_filter(grammar, wish)
                with self.assertRaises(NoGrammar) as other:
                    takes(grammar, wish, LETTER)
                self.assertEqual((one.exception.kind, one.exception.field), (other.exception.kind, other.exception.field))
        with self.assertRaises(NoGrammar) as caught:
            look_at_filter(GRAMMAR[:1], None)
        self.assertEqual((caught.exception.kind, caught.exception.field), (0, 4))


class Bounds(Cases):
    def nested(self, many):
        wish = ("there", ("n",))
        for _ in range(many - 1):
            wish = ("not", wish)
        return wish

    def test_six_within_one_another(self):
        self.looked(self.nested(6))
        for many in (7, 8, 15):
            self.no_filter(self.nested(many))

    def test_six_on_either_side(self):
        for word in ("and", "or"):
            self.looked((word, self.nested(5), ("yes",)))
            self.looked((word, ("yes",), self.nested(5)))
            self.no_filter((word, self.nested(6), ("yes",)))
            self.no_filter((word, ("yes",), self.nested(6)))

    def test_twelve_tuples(self):
        yes = ("yes",)
        seven = ("and", ("and", yes, yes), ("or", yes, yes))
        self.looked(("and", seven, ("not", ("and", yes, yes))))
        self.no_filter(("and", seven, ("and", yes, ("and", yes, yes))))
        self.looked(("not", ("not", ("and", seven, yes))))
        self.no_filter(("and", seven, seven))
        eleven = ("or", seven, ("and", yes, yes))
        self.looked(eleven)
        self.looked(("not", eleven))
        self.no_filter(("not", ("not", eleven)))
        self.no_filter(("and", yes, eleven))

    def test_very_many_tuples(self):
        wish = ("yes",)
        for _ in range(19):
            wish = ("and", wish, wish)
        self.no_filter(wish)

    def test_four_names(self):
        self.path(("n",))
        self.path(("c", "x"))
        self.path(("c", "d", "u"))
        self.path(("c", "d", "e", "w"))
        self.no_path(("c", "d", "e", "f", "k"))
        self.looked(("kind", ("c", "d", "e", "f"), "last"))
        self.no_path(())
        for path in ((), ("c", "d", "e", "f", "g")):
            self.no_filter(("kind", path, "last"))


class Paths(Cases):
    def test_numbers_and_parts(self):
        for path in (("n",), ("hi",), ("lo",), ("m",), ("c", "x"), ("c", "d", "u"), ("c", "d", "v"), ("c", "d", "x")):
            self.path(path)
            self.no_filter(("kind", path, "one"))

    def test_choices(self):
        for path in (("c",), ("c", "d"), ("c", "d", "e"), ("c", "d", "e", "f")):
            self.looked(("kind", path, "top"))
            self.no_path(path)

    def test_things_that_are_no_paths(self):
        for path in (None, 5, "n", "c", b"n", ["n"], {"n": 1}, ("N",), ("",), (0,), (True,), (None,), (("n",),), (["n"],),
                     ({},), ("n", "n"), ("n", 0), ("c", 0, "x"), ("c", "x", "x"), ("top", "n"), ("c", "one", "x"),
                     ("nothing",), ("c", "n"), ("x",), ("pad",), ("c", "b"), ("c", "t"), ("c", "z"), ("c", "d", "t"),
                     ("c", "c", "x"), ("d", "u"), ("c", "e", "w"), frozenset(["n"]), ("toolongname",)):
            self.no_path(path)
            self.no_filter(("kind", path, "one"))

    def test_what_may_not_stand_ahead(self):
        one = ("one", (("number", "a", 1, "big", 0, 9),))
        behind = (("number", "m", 1, "big", 0, 9), ("bits", (("p", 4), ("q", 4))))
        for ahead in (("text", "v", 0), ("row", "v", "one", ("of", "n")), ("carried", "v", ("is", 3), "one"),
                      ("carried", "v", ("of", "n", 1, 0), "one"), ("sum", "v", "plain"), ("choice", "v", "n", ((1, "one"),))):
            grammar = (("top", (BYTE, ahead) + behind), one)
            self.assertIsNone(look_at_grammar(grammar))
            self.path(("n",), grammar)
            for name in ("m", "p", "q", "v"):
                self.no_path((name,), grammar)
        for ahead in (("bytes", "v", ("is", 3)), ("bytes", "v", ("of", "n", 2, -1)), ("number", "v", 4, "big", 0, 9),
                      ("bits", (("v", 1), ("w", 7)))):
            grammar = (("top", (BYTE, ahead) + behind), one)
            self.path(("n",), grammar)
            for name in ("m", "p", "q"):
                self.path((name,), grammar)

    def test_a_choice_behind_another(self):
        one = ("one", (("number", "a", 1, "big", 0, 9),))
        choice = ("choice", "c", "n", ((1, "one"),))
        grammar = (("top", (BYTE, choice, ("choice", "d", "n", ((1, "one"),)))), one)
        self.path(("c", "a"), grammar)
        self.no_path(("d", "a"), grammar)
        self.looked(("kind", ("c",), "one"), grammar)
        self.no_filter(("kind", ("d",), "one"), grammar)
        for ahead in (("text", "v", 0), ("sum", "v", "mixed")):
            grammar = (("top", (BYTE, ahead, choice)), one)
            self.no_path(("c", "a"), grammar)
            self.no_filter(("kind", ("c",), "one"), grammar)

    def test_a_choice_to_the_rest_ahead_of_a_sum(self):
        all_kind = ("all", (BYTE, ("bytes", "b", ("rest",))))
        one = ("one", (BYTE,))
        sum_field = ("sum", "s", "plain")
        to_rest = ("choice", "c", "n", ((1, "all"), (2, "one")))
        not_rest = ("choice", "c", "n", ((1, "one"), (2, "one")))
        for fields, is_one in (((BYTE, to_rest, sum_field), False), ((BYTE, to_rest), True),
                               ((BYTE, not_rest, sum_field), True), ((BYTE, not_rest), True)):
            grammar = (("top", fields), all_kind, one)
            self.assertIsNone(look_at_grammar(grammar))
            for wish in (("there", ("c", "n")), ("is", ("c", "n"), "less", 3), ("kind", ("c",), "one")):
                if is_one:
                    self.looked(wish, grammar)
                else:
                    self.no_filter(wish, grammar)
            self.path(("n",), grammar)

    def test_an_inner_choice_to_the_rest_ahead_of_a_sum(self):
        grammar = (("top", (BYTE, ("choice", "c", "n", ((1, "mid"),)))),
                   ("mid", (BYTE, ("choice", "c", "n", ((1, "all"),)), ("sum", "s", "plain"))),
                   ("all", (BYTE, ("bytes", "b", ("rest",)))))
        self.assertIsNone(look_at_grammar(grammar))
        self.path(("c", "n"), grammar)
        self.looked(("kind", ("c",), "mid"), grammar)
        self.no_path(("c", "c", "n"), grammar)
        self.no_filter(("kind", ("c", "c"), "all"), grammar)

    def test_each_kind_that_is_come_to(self):
        """In each one the name is so, or of nothing; in one at least it is."""
        def grammar(one, two):
            return (("top", (BYTE, ("choice", "c", "n", ((1, "one"), (2, "two"))))), ("one", one), ("two", two),
                    ("far", (BYTE,)))
        number = ("number", "x", 1, "big", 0, 9)
        other = ("number", "y", 1, "big", 0, 9)
        part = ("bits", (("x", 4), ("z", 4)))
        for two in ((number,), (other,), (part,), (other, number), (("text", "t", 0),), (number, ("text", "t", 0)),
                    (("bytes", "b", ("is", 1)), part)):
            self.path(("c", "x"), grammar((number,), two))
            self.path(("c", "x"), grammar(two, (number,)))
        for two in ((("text", "x", 0),), (("bytes", "x", ("is", 1)),), (("sum", "x", "plain"),),
                    (other, ("choice", "x", "y", ((1, "far"),))), (("carried", "x", ("is", 1), "far"),),
                    (("row", "x", "far", ("rest",)),), (("text", "t", 0), number), (("sum", "s", "plain"), part)):
            self.no_path(("c", "x"), grammar((number,), two))
            self.no_path(("c", "x"), grammar(two, (number,)))
        self.no_path(("c", "x"), grammar((other,), (other,)))

    def test_choices_in_each_kind_that_is_come_to(self):
        choice = ("choice", "d", "n", ((1, "far"),))
        def grammar(two):
            return (("top", (BYTE, ("choice", "c", "n", ((1, "one"), (2, "two"))))), ("one", (BYTE, choice)), ("two", two),
                    ("far", (("number", "x", 1, "big", 0, 9),)), ("low", (("text", "x", 0),)))
        for two in ((BYTE,), (BYTE, choice), (BYTE, ("choice", "d", "n", ((1, "far"), (5, "far"))))):
            self.path(("c", "d", "x"), grammar(two))
            self.looked(("kind", ("c", "d"), "low"), grammar(two))
        for two in ((BYTE, BYTE[:1] + ("d",) + BYTE[2:]), (BYTE, ("text", "t", 0), choice), (("text", "d", 0),)):
            self.no_path(("c", "d", "x"), grammar(two))
            self.no_filter(("kind", ("c", "d"), "far"), grammar(two))
        # The way low leads to a text of that name.
        two = (BYTE, ("choice", "d", "n", ((1, "low"),)))
        self.no_path(("c", "d", "x"), grammar(two))
        self.looked(("kind", ("c", "d"), "far"), grammar(two))

    def test_many_ways_are_looked_at_in_no_time(self):
        kinds = []
        for number in range(10):
            fields = (BYTE,)
            if number < 9:
                ways = tuple((worth, "k" + "abcdefghij"[number + 1]) for worth in range(6))
                fields += (("choice", "c", "n", ways),)
            kinds.append(("k" + "abcdefghij"[number], fields))
        self.looked(("is", ("c", "c", "c", "n"), "same", 1), tuple(kinds))


class Taking(Cases):
    def test_yes(self):
        for some in ((), (0,), LETTER, (255,) * 400):
            self.taken(("yes",), some, True)

    def test_numbers(self):
        for path, worth in ((("n",), 3), (("hi",), 5), (("lo",), 2), (("m",), 300), (("c", "x"), 4), (("c", "d", "u"), 9),
                            (("c", "d", "v"), 1), (("c", "d", "e", "w"), 7)):
            self.taken(("there", path), LETTER, True)
            for other in (0, worth - 1, worth, worth + 1, 10 ** 30):
                self.taken(("is", path, "same", other), LETTER, worth == other)
                self.taken(("is", path, "less", other), LETTER, worth < other)
                self.taken(("is", path, "more", other), LETTER, worth > other)

    def test_what_is_not_there_is_nothing(self):
        for word in ("same", "less", "more"):
            for worth in (0, 1, 300, 10 ** 20):
                self.taken(("is", ("m",), word, worth), LETTER[:4], False)
                self.taken(("is", ("c", "d", "x"), word, worth), LETTER, False)

    def test_kinds(self):
        for path, kind in ((("c",), "one"), (("c", "d"), "low"), (("c", "d", "e"), "end"), (("c", "d", "e", "f"), "last")):
            for other, _ in GRAMMAR:
                self.taken(("kind", path, other), LETTER, kind == other)

    def test_kinds_by_several_worths(self):
        for low, kind in ((0, "one"), (1, "two"), (2, "one"), (3, "all"), (4, None), (31, None)):
            some = (3, 0b10100000 | low) + LETTER[2:]
            for other, _ in GRAMMAR:
                self.taken(("kind", ("c",), other), some, kind == other)

    def test_cut_letters(self):
        ends = {("n",): 1, ("hi",): 2, ("lo",): 2, ("m",): 5, ("c", "x"): 6, ("c", "d", "u"): 9, ("c", "d", "v"): 9,
                ("c", "d", "e", "w"): 10}
        begins = {("c",): 5, ("c", "d"): 8, ("c", "d", "e"): 9, ("c", "d", "e", "f"): 10}
        kinds = {("c",): "one", ("c", "d"): "low", ("c", "d", "e"): "end", ("c", "d", "e", "f"): "last"}
        for cut in range(len(LETTER) + 1):
            for path, end in ends.items():
                self.taken(("there", path), LETTER[:cut], cut >= end)
                self.taken(("is", path, "more", 0), LETTER[:cut], cut >= end)
            for path, begin in begins.items():
                self.taken(("kind", path, kinds[path]), LETTER[:cut], cut >= begin)

    def test_longer_letters(self):
        self.taken(("is", ("c", "d", "e", "w"), "same", 7), LETTER + (1, 2, 3), True)

    def test_numbers_beyond_their_bounds(self):
        some = LETTER[:3] + (9, 0) + LETTER[5:]
        self.taken(("there", ("m",)), some, False)
        self.taken(("is", ("m",), "same", 9), some, False)
        self.taken(("is", ("m",), "less", 10), some, False)
        self.taken(("kind", ("c",), "one"), some, False)
        self.taken(("there", ("c", "x")), some, False)
        self.taken(("is", ("lo",), "same", 2), some, True)
        self.taken(("is", ("m",), "same", 10), LETTER[:3] + (10, 0), True)
        self.taken(("is", ("m",), "same", 1000), LETTER[:3] + (232, 3), True)
        self.taken(("there", ("m",)), LETTER[:3] + (233, 3), False)
        some = LETTER[:9] + (9, 66)
        self.taken(("kind", ("c", "d", "e"), "end"), some, True)
        self.taken(("there", ("c", "d", "e", "w")), some, False)
        self.taken(("kind", ("c", "d", "e", "f"), "last"), some, False)

    def test_lengths_below_nought(self):
        some = (1,) + LETTER[1:]
        self.taken(("is", ("n",), "same", 1), some, True)
        self.taken(("there", ("lo",)), some, True)
        self.taken(("there", ("m",)), some, False)
        self.taken(("kind", ("c",), "one"), some, False)
        some = (2,) + LETTER[1:2] + LETTER[3:]
        self.taken(("is", ("m",), "same", 300), some, True)

    def test_lengths_beyond_the_bytes(self):
        some = (200,) + LETTER[1:]
        self.taken(("is", ("n",), "same", 200), some, True)
        self.taken(("there", ("m",)), some, False)
        self.taken(("there", ("m",)), some + (20,) * 186, False)
        self.taken(("there", ("m",)), some + (1,) * 191, True)

    def test_faults_behind_tell_nothing(self):
        some = LETTER[:8]
        self.taken(("is", ("c", "x"), "same", 4), some, True)
        some = (3, 0b10100001, 77, 44, 1, 1, 0, 8, 8)
        self.taken(("is", ("c", "x"), "same", 256), some, True)

    def test_a_name_in_several_kinds(self):
        wish = ("is", ("c", "x"), "more", 3)
        self.taken(wish, LETTER, True)
        self.taken(wish, (3, 0b10100001, 77, 44, 1, 1, 0), True)
        self.taken(wish, (3, 0b10100001, 77, 44, 1, 0, 99), False)
        self.taken(wish, (3, 0b10100011, 77, 44, 1, 9, 9), False)
        self.taken(wish, (3, 0b10100100, 77, 44, 1, 9, 9), False)

    def test_not_and_or(self):
        yes = ("there", ("n",))
        no = ("there", ("c", "d", "x"))
        for one, first in ((yes, True), (no, False)):
            self.taken(one, LETTER, first)
            for other, second in ((yes, True), (no, False)):
                self.taken(("and", one, other), LETTER, first and second)
                self.taken(("or", one, other), LETTER, first or second)
                self.taken(("and", ("not", one), ("or", other, one)), LETTER, not first and (second or first))

    def test_ahead_of_a_sum(self):
        grammar = (("top", (BYTE, ("choice", "c", "n", ((1, "one"),)), ("sum", "s", "plain"))),
                   ("one", (("number", "a", 1, "big", 0, 9),)))
        self.taken(("is", ("c", "a"), "same", 5), (1, 5), True, grammar)
        self.taken(("is", ("c", "a"), "same", 5), (1, 5, 0), True, grammar)
        self.taken(("there", ("c", "a")), (1,), False, grammar)


class HandedIn(unittest.TestCase):
    def test_by_names(self):
        self.assertIsNone(look_at_filter(grammar=GRAMMAR, thing=("yes",)))
        self.assertIs(takes(grammar=GRAMMAR, wish=("there", ("n",)), some=LETTER), True)

    def test_stands_in_its_file(self):
        for name in ("look_at_filter", "takes"):
            self.assertEqual(getattr(filters, name).__module__, "letterbench.filters")


if __name__ == "__main__":
    unittest.main()
