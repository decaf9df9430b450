"""Promise 14: filters made to rows of the machine, which tell what the filter tells and see no farther than they may."""

import random
import unittest

from lettermaker import draw_bytes, draw_letter, in_bytes
from test_filters_drawn import choosing, draw_filter, draw_leaf, is_filter, names_of, paths_of
from letterbench import compiling
from letterbench.compiling import rows_for
from letterbench.errors import NoFilter, NoGrammar, TooMany
from letterbench.filters import look_at_filter, takes
from letterbench.grammars import look_at_grammar
from letterbench.reading import spreads_of
from letterbench.rows import is_rows, run

WORDS = ("same", "less", "more")

GRAMMAR = (
    ("top", (
        ("bits", (("ver", 2), ("kind", 3), ("flag", 3))),
        ("number", "len", 2, "small", 1, 300),
        ("bytes", "pad", ("is", 2)),
        ("bytes", "body", ("of", "len", 2, -4)),
        ("number", "id", 3, "big", 5, 70000),
        ("choice", "more", "kind", ((0, "ping"), (1, "data"), (5, "ping"), (-1, "data"), (90, "data"))),
        ("number", "tail", 1, "big", 0, 255),
    )),
    ("ping", (("number", "x", 4, "small", 7, 2 ** 31), ("number", "y", 1, "big", 3, 9))),
    ("data", (("number", "n", 1, "big", 0, 255), ("bits", (("hi", 4), ("lo", 4))),
              ("choice", "deep", "lo", ((3, "ping"), (4, "end"))))),
    ("end", (("number", "y", 2, "big", 0, 65535), ("bytes", "rest", ("is", 1)))),
)


def top(kind, *, length=3, number=5000, pad=(8, 9)):
    """The bytes ahead of the choice, the body being zeros."""
    return (0b01000110 & 0b11000111 | kind << 3,) + in_bytes(length, 2, "small") + pad + (0,) * (2 * length - 4) + \
        in_bytes(number, 3, "big")


PING = top(0) + in_bytes(70, 4, "small") + (4, 77)
PONG = top(5, length=2) + in_bytes(2 ** 31, 4, "small") + (9, 78)
DEEP = top(1) + (200, 0x53) + in_bytes(8, 4, "small") + (3, 1)
OTHER = top(1, length=9, number=4000) + (0, 0x04, 1, 2, 50, 51)
BLIND = top(2) + (1, 2, 3)
LETTERS = (PING, PONG, DEEP, OTHER, BLIND)

LEAVES = (
    ("yes",), ("there", ("ver",)), ("there", ("flag",)), ("there", ("len",)), ("there", ("id",)),
    ("is", ("ver",), "same", 1), ("is", ("kind",), "more", 0), ("is", ("flag",), "less", 7), ("is", ("len",), "same", 3),
    ("is", ("len",), "less", 3), ("is", ("id",), "more", 4999), ("is", ("id",), "same", 5000), ("is", ("id",), "less", 5000),
    ("kind", ("more",), "ping"), ("kind", ("more",), "data"), ("kind", ("more",), "top"), ("kind", ("more", "deep"), "ping"),
    ("kind", ("more", "deep"), "end"), ("kind", ("more", "deep"), "data"), ("there", ("more", "x")),
    ("is", ("more", "x"), "same", 70), ("is", ("more", "y"), "more", 3), ("there", ("more", "n")),
    ("is", ("more", "hi"), "same", 5), ("is", ("more", "lo"), "less", 4), ("there", ("more", "deep", "y")),
    ("is", ("more", "deep", "x"), "more", 7), ("is", ("more", "deep", "y"), "same", 3), ("is", ("len",), "more", 10 ** 40),
)


def ends_to(grammar, spreads, path):
    """Up to where rows may see by this path: the end of its field, or of the numbers and bits ahead that are there."""
    table = dict(grammar)
    kind = grammar[0][0]
    told = {at: (end, what, worth) for _, end, at, what, worth in spreads}
    seen = 0
    for depth, name in enumerate(path):
        worths = {}
        if name not in [one for field in table[kind] for one in names_of(field)]:
            return seen
        for field in table[kind]:
            names = names_of(field)
            if name in names and field[0] == "choice":
                break
            end, what, worth = told.get(path[:depth] + (names[0],), (None, None, None))
            if what in ("number", "bits") or (what == "faulty" and worth == "range"):
                seen = end
            if what not in ("number", "bits", "bytes") or name in names:
                return seen
            worths.update(zip(names, worth) if what == "bits" else [(names[0], worth)])
        kind = dict(field[3]).get(worths[field[2]])
        if kind is None:
            return seen
    return seen


def paths_in(wish):
    if wish[0] in ("not", "and", "or"):
        return [path for inner in wish[1:] for path in paths_in(inner)]
    return [wish[1]] if len(wish) > 1 else []


class Cases(unittest.TestCase):
    def so(self, grammar, wish, letters):
        """The rows tell of these what the filter does, and see no farther than they may."""
        rows = rows_for(grammar, wish)
        self.assertIs(is_rows(rows), True)
        truths = set()
        for some in letters:
            truth, seen = run(rows, some)
            self.assertIs(truth, takes(grammar, wish, some), (grammar, wish, some))
            spreads = spreads_of(grammar, some)
            self.assertLessEqual(seen, max([0] + [ends_to(grammar, spreads, path) for path in paths_in(wish)]), (wish, some))
            truths.add(truth)
        return truths


def cuts(some):
    return [some[:cut] for cut in range(len(some) + 1)]


class ByHand(Cases):
    def test_each_leaf(self):
        letters = [some for letter in LETTERS for some in cuts(letter) + [letter + (1, 2)]]
        for wish in LEAVES:
            self.so(GRAMMAR, wish, letters)
            self.so(GRAMMAR, ("not", wish), letters)

    def test_leaves_of_each_truth(self):
        for wish in LEAVES[1:-1]:
            if wish not in (("kind", ("more",), "top"), ("kind", ("more", "deep"), "data")):
                self.assertEqual(self.so(GRAMMAR, wish, LETTERS + ((),)), {True, False}, wish)

    def test_and_or_within_one_another(self):
        letters = [some for letter in LETTERS for some in cuts(letter)]
        chance = random.Random(140)
        for _ in range(150):
            self.so(GRAMMAR, draw_filter(chance, lambda: chance.choice(LEAVES), 6, 12), letters)

    def test_numbers_beyond_their_bounds(self):
        for length in (0, 1, 2, 300, 301, 65535):
            for number in (0, 4, 5, 70000, 70001, 2 ** 24 - 1):
                some = top(0, length=2, number=number) + in_bytes(7, 4, "small") + (3, 0)
                some = some[:1] + in_bytes(length, 2, "small") + some[3:]
                for wish in LEAVES:
                    self.so(GRAMMAR, wish, [some, some + (0,) * 700])
        for x in (0, 6, 7, 2 ** 31, 2 ** 31 + 1, 2 ** 32 - 1):
            for y in (2, 3, 9, 10):
                for wish in LEAVES:
                    self.so(GRAMMAR, wish, [top(0) + in_bytes(x, 4, "small") + (y, 0)])

    def test_one_number_of_each_size(self):
        for size in (1, 2, 3, 4):
            whole = 256 ** size - 1
            for order in ("big", "small"):
                for least, most in ((0, whole), (1, whole), (0, whole - 1), (5, 100), (100, 100), (0, 0), (whole, whole)):
                    grammar = (("k", (("number", "n", size, order, least, most), ("number", "m", 1, "big", 3, 4))),)
                    letters = [in_bytes(worth, size, order) + (last,) for last in (2, 3, 4, 5)
                               for worth in sorted({0, 1, 4, 5, 6, 99, 100, 101, whole - 1, whole})]
                    letters += [letters[0][:cut] for cut in range(size + 1)]
                    for worth in (0, 5, 100, whole, whole + 1, 10 ** 50):
                        for word in WORDS:
                            self.so(grammar, ("is", ("n",), word, worth), letters)
                    for wish in (("there", ("n",)), ("there", ("m",)), ("is", ("m",), "same", 3)):
                        self.so(grammar, wish, letters)

    def test_each_part_of_bits(self):
        for widths in ((1, 7), (7, 1), (4, 4), (2, 3, 3), (1,) * 8, (1, 1, 6)):
            parts = tuple(("abcdefgh"[number], width) for number, width in enumerate(widths))
            grammar = (("k", (("bits", parts), ("bytes", "z", ("is", 1)))),)
            letters = [(byte,) for byte in range(256)] + [(), (7, 8)]
            for name, width in parts:
                for word in WORDS:
                    for worth in (0, 1, 2 ** width - 1, 2 ** width):
                        self.so(grammar, ("is", (name,), word, worth), letters)
                self.so(grammar, ("there", (name,)), letters)

    def test_eight_parts_that_lengths_hang_on(self):
        parts = tuple((name, 1) for name in "abcdefgh")
        fields = tuple(("bytes", "z" + name, ("of", name, 1, 0)) for name in "abcdef")
        grammar = (("k", (("bits", parts),) + fields + (("choice", "way", "g", ((1, "m"),)),)), ("m", (("number", "n", 1, "big", 2, 9),)))
        letters = [(byte,) + tuple(range(many)) for byte in (0, 0b10101010, 0b11111111, 0b11111101, 0b10) for many in range(9)]
        for wish in (("is", ("way", "n"), "less", 5), ("kind", ("way",), "m"), ("there", ("h",))):
            self.so(grammar, wish, letters)

    def test_lengths_below_nought(self):
        for times, more in ((1, -3), (3, -7), (8, -40), (1, -1), (2, 0), (1, 40)):
            grammar = (("k", (("number", "n", 1, "big", 0, 200), ("bytes", "b", ("of", "n", times, more)),
                              ("number", "m", 1, "big", 0, 255))),)
            letters = [(number,) + (1,) * many for number in (0, 1, 2, 3, 4, 5, 6, 200, 201) for many in (0, 1, 2, 9, 60)]
            for wish in (("there", ("m",)), ("is", ("m",), "same", 1), ("is", ("n",), "less", 3)):
                self.so(grammar, wish, letters)

    def test_a_number_behind_eight_hundred_bytes(self):
        for ahead in ((400, 400), (400, 400, 400), (400, 101), (400, 100), (250, 250, 1), (300, 200, 0)):
            fields = tuple(("bytes", "b" + "abc"[at], ("is", many)) for at, many in enumerate(ahead))
            grammar = (("k", fields + (("number", "n", 2, "big", 3, 9),)),)
            many = sum(ahead)
            letters = [(0,) * many + tail for tail in ((0, 3), (0, 9), (0, 2), (1, 3), (0,), (), (0, 5, 6))] + [(0,) * (many - 1), ()]
            self.assertEqual(self.so(grammar, ("there", ("n",)), letters), {True, False})
            self.so(grammar, ("is", ("n",), "more", 3), letters)

    def test_a_tag_behind_many_bytes(self):
        grammar = (("k", (("bytes", "b", ("is", 400)), ("bytes", "c", ("is", 400)), ("number", "n", 1, "big", 0, 9),
                          ("bytes", "d", ("of", "n", 8, 0)), ("choice", "way", "n", ((1, "m"), (2, "m"), (3, "l"))))),
                   ("m", (("number", "x", 1, "big", 0, 255),)), ("l", (("number", "y", 1, "big", 0, 255),)))
        letters = [(0,) * 800 + (number,) + (7,) * many for number in (0, 1, 2, 3, 10) for many in (0, 7, 8, 9, 17, 24, 25)]
        for wish in (("is", ("way", "x"), "same", 7), ("there", ("way", "y")), ("kind", ("way",), "m")):
            self.assertEqual(self.so(grammar, wish, letters), {True, False})

    def test_all_of_one_letter(self):
        grammar = (("k", (("number", "n", 1, "big", 0, 255),)),)
        self.assertEqual(self.so(grammar, ("yes",), [(), (1,)]), {True})
        self.assertEqual(self.so(grammar, ("not", ("yes",)), [(), (1,)]), {False})
        self.assertEqual(run(rows_for(grammar, ("yes",)), (1, 2)), (True, 0))


class Refusals(unittest.TestCase):
    def test_no_grammar_ahead(self):
        for grammar, wish in ((None, ("yes",)), ((), None), (GRAMMAR[:1], ("no",)), ([], [])):
            with self.assertRaises(NoGrammar) as caught:
                rows_for(grammar, wish)
            with self.assertRaises(NoGrammar) as other:
                look_at_grammar(grammar)
            self.assertEqual((caught.exception.kind, caught.exception.field), (other.exception.kind, other.exception.field))

    def test_no_filter(self):
        for wish in (None, True, "yes", ["yes"], ("no",), ("yes", 1), ("is", ("ver",), "same", True), ("there", ("tail",)),
                     ("there", ("body",)), ("kind", ("more",), "none"), ("not", ("not", ("not", ("not", ("not", ("not", ("yes",)))))))):
            with self.assertRaises(NoFilter):
                rows_for(GRAMMAR, wish)


def great_grammar(many, *, size=4, choices=True):
    """Ten kinds of eight fields; from each kind a choice may lead to many of those behind."""
    kinds = ["k" + "abcdefghij"[number] for number in range(10)]
    grammar = []
    for at, kind in enumerate(kinds):
        fields = [("number", "abcdefg"[number], size, "big", 1, 9) for number in range(6)]
        behind = kinds[at + 1:at + 1 + many]
        if behind and choices:
            fields.append(("choice", "way", "a", tuple((number + 1, inner) for number, inner in enumerate(behind))))
        fields.append(("number", "last" if not behind else "z", 1, "big", 0, 9))
        grammar.append((kind, tuple(fields)))
    return tuple(grammar)


def joined(wishes):
    """At most six filters, joined by and and or."""
    if len(wishes) == 1:
        return wishes[0]
    half = len(wishes) // 2
    return (("and", "or")[len(wishes) % 2], joined(wishes[:half]), joined(wishes[half:]))


class Sizes(Cases):
    def test_too_many(self):
        grammar = great_grammar(6)
        wishes = [("is", ("way", "way", "way", name), "same", 5) for name in "abcdef"]
        look_at_filter(grammar, joined(wishes))
        many = []
        for number in (4, 5, 6):
            with self.assertRaises(TooMany) as caught:
                rows_for(grammar, joined(wishes[:number]))
            many.append(caught.exception.many)
            self.assertIs(type(caught.exception.many), int)
        self.assertTrue(600 < many[0] < many[1] < many[2], many)

    def test_each_filter_more_is_as_many_rows_more(self):
        """Of those that are too many it is told how many there would be, in step with those that are told."""
        one = ("is", ("way", "way", "way", "f"), "same", 5)
        for ways in (1, 2):
            grammar = great_grammar(ways, size=1)
            told = []
            for number in range(1, 7):
                try:
                    told.append(len(rows_for(grammar, joined([one] * number))))
                    self.assertLessEqual(told[-1], 600)
                except TooMany as refusal:
                    told.append(refusal.many)
                    self.assertGreater(told[-1], 600)
            steps = [behind - ahead for ahead, behind in zip(told, told[1:])]
            self.assertEqual(len(set(steps)), 1, told)

    def test_six_hundred_and_one_more(self):
        grammar = great_grammar(2, size=1)
        far = ("way", "way", "way", "f")
        near = [("is", path, "same", 5) for path in (far, far, ("way", "way", "c"), ("way", "way", "a"), ("f",))]
        rows = rows_for(grammar, joined(near))
        self.assertEqual(len(rows), 600)
        self.assertIs(is_rows(rows), True)
        beyond = [("is", path, "same", 5) for path in (far, far, ("way", "way", "f"), ("c",), ("way", "f"))]
        with self.assertRaises(TooMany) as caught:
            rows_for(grammar, joined(beyond))
        self.assertEqual(caught.exception.many, 601)

    def test_never_of_eight_fields_in_all(self):
        chance = random.Random(141)
        most = 0
        for grammar in small_grammars(142, 150):
            numbers, choices = paths_of(grammar)
            for _ in range(4):
                longest = sorted(numbers + choices, key=len)[-3:]
                leaf = lambda: draw_leaf(chance, grammar, [path for path in longest if path in numbers], [path for path in longest if path in choices])
                wish = joined([leaf() for _ in range(6)])
                rows = rows_for(grammar, ("not", wish))
                self.assertIs(is_rows(rows), True)
                most = max(most, len(rows))
        self.assertGreater(most, 80)

    def test_four_kinds_one_behind_the_other(self):
        ways = tuple((number, "kb") for number in range(6))
        grammar = (("ka", (("number", "n", 4, "big", 1, 9), ("choice", "way", "n", ways))),
                   ("kb", (("number", "n", 4, "big", 1, 9), ("choice", "way", "n", tuple((number, "kc") for number in range(6))))),
                   ("kc", (("number", "n", 4, "big", 1, 9), ("choice", "way", "n", tuple((number, "kd") for number in range(6))))),
                   ("kd", (("number", "n", 4, "big", 1, 9), ("number", "m", 4, "big", 1, 9))))
        leaf = ("is", ("way", "way", "way", "m"), "same", 4)
        self.assertLessEqual(len(rows_for(grammar, ("not", joined([leaf] * 6)))), 600)
        letter = (0, 0, 0, 5) * 4 + (0, 0, 0, 4)
        self.assertEqual(self.so(grammar, joined([leaf] * 6), cuts(letter)), {True, False})


def draw_wide_field(chance, name, tags):
    word = chance.choice(("number", "number", "number", "bits", "bytes", "bytes"))
    if word == "number":
        size = chance.choice((1, 1, 2, 3, 4))
        whole = 256 ** size - 1
        least = chance.choice((0, 0, 1, 2, whole))
        most = chance.choice((whole, max(least, whole - 1), max(least, 40), max(least, 7)))
        tags.append(name)
        return ("number", name, size, chance.choice(("big", "small")), least, most)
    if word == "bits":
        split = chance.randint(1, 7)
        tags.extend((name, name + "x"))
        return ("bits", ((name, split), (name + "x", 8 - split)))
    lengths = [("is", chance.choice((0, 1, 2, 5)))]
    lengths += [("of", chance.choice(tags), chance.choice((1, 1, 2, 8)), chance.choice((0, 0, -3, -40, 2, 40)))] * 3 if tags else []
    return ("bytes", name, chance.choice(lengths))


def draw_wide_kind(chance, name, kinds, many):
    tags = []
    fields = [draw_wide_field(chance, field, tags) for field in chance.sample("abdefg", many)]
    if kinds and tags:
        worths = chance.sample((-1, 0, 1, 2, 3, 4, 7, 10 ** 10), chance.randint(1, 5))
        fields.append(("choice", "c", chance.choice(tags), tuple((worth, chance.choice(kinds)) for worth in worths)))
    return (name, tuple(fields))


def wide_grammars(seed, many, *, most=4):
    """Grammars of one to four kinds, numbers of all sizes and orders with bounds among and at the ends, and choices."""
    chance = random.Random(seed)
    found = []
    while len(found) < many:
        grammar = ()
        for name in ("ka", "kb", "kc", "kd")[:chance.randint(1, 4)]:
            grammar = (draw_wide_kind(chance, name, [kind for kind, _ in grammar], chance.randint(1, most)),) + grammar
        look_at_grammar(grammar)
        if is_filter(look_at_filter, grammar, ("yes",)):
            found.append(grammar)
    return found


def small_grammars(seed, many):
    """Grammars of at most eight fields in all."""
    found = []
    while len(found) < many:
        seed += 1000
        found += [grammar for grammar in wide_grammars(seed, many, most=2) if sum(len(fields) for _, fields in grammar) <= 8]
    return found[:many]


def letters_near(chance, grammar):
    """Good bytes, all their cuts, one byte otherwise, and others."""
    letter = draw_letter(chance, grammar)
    letters = [draw_bytes(chance, chance.randint(0, 30)), tuple(byte % 5 for byte in draw_bytes(chance, chance.randint(0, 40))), ()]
    if letter is not None:
        letters += cuts(letter[0][:60]) + [letter[0], letter[0] + (0, 1)]
        for place in range(min(len(letter[0]), 12)):
            letters.append(letter[0][:place] + (chance.choice((0, 1, 255, chance.randrange(256))),) + letter[0][place + 1:])
    return letters


class Drawn(Cases):
    def test_over_wide_grammars(self):
        chance = random.Random(143)
        truths = {True: 0, False: 0}
        for grammar in wide_grammars(144, 150):
            numbers, choices = paths_of(grammar)
            letters = letters_near(chance, grammar)
            for _ in range(4):
                wish = draw_filter(chance, lambda: draw_leaf(chance, grammar, numbers, choices), 6, 12)
                for truth in self.so(grammar, wish, letters):
                    truths[truth] += 1
        self.assertGreater(min(truths.values()), 200, truths)

    def test_over_grammars_with_many_ways(self):
        chance = random.Random(145)
        for grammar, letter in choosing(146, 60):
            numbers, choices = paths_of(grammar)
            letters = cuts(letter) + letters_near(chance, grammar)
            for _ in range(3):
                self.so(grammar, draw_filter(chance, lambda: draw_leaf(chance, grammar, numbers, choices), 6, 12), letters)


class HandedIn(unittest.TestCase):
    def test_by_names_and_told_anew(self):
        wish = ("is", ("ver",), "same", 1)
        rows = rows_for(grammar=GRAMMAR, wish=wish)
        self.assertIsInstance(rows, tuple)
        self.assertTrue(all(isinstance(row, tuple) for row in rows))
        self.assertEqual(rows, rows_for(GRAMMAR, wish))
        self.assertEqual(wish, ("is", ("ver",), "same", 1))

    def test_stands_in_its_file(self):
        self.assertEqual(compiling.rows_for.__module__, "letterbench.compiling")


if __name__ == "__main__":
    unittest.main()
