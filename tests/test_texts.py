"""Promises 28 and 3 (l): grammars, ends, filters, rows and lots written as texts and read from these."""

import random
import re
import unittest

from handmade import POST
from sheetmaker import ASKER, LOWER, UPPER, draw_lot
from test_comparing import draw_rows
from test_filters_drawn import choosing, draw_filter, draw_leaf, paths_of
from test_losses import drawn
from test_sheet import NO_CATCHES
from test_talks import draw_end
from letterbench import texts
from letterbench.errors import NoEnd, NoFilter, NoGrammar, NoLetter, NoText
from letterbench.rows import is_rows
from letterbench.texts import (
    read_end, read_filter, read_grammar, read_lot, read_rows, show_end, show_filter, show_grammar, show_lot, show_rows,
)

POST_TEXT = """kind post
bits ver:2 sort:3 flags:3
number len 2 big 0 20
choice body sort 0:ping 1:data 5:ping
carried outer len*2+1 shell
bytes tail *
sum check placed
kind ping
number id 2 small 1 1000
bytes pad 2
kind data
number many 1 big 0 3
row list pair many
text note 10
kind pair
number key 1 big 3 10
bytes val key*1-3
kind shell
number size 1 big 0 40
carried core size*1+0 core
sum own mixed
kind core
bytes raw *
sum plain plain"""
ASKER_TEXT = """places idle asked glad
row idle says ask asked
row asked hears no idle
row asked hears yes glad
row glad says thanks idle"""
ROWS = (("take", 0, 500, 4, "small", 8), ("part", 7, 0, 7, 8, 8), ("move", 3, 8), ("skip", 0, 8, -40, 8), ("ask", 7, "more", 10 ** 59, 8), ("back",), ("go", 8),
        ("end", False), ("end", True))
ROWS_TEXT = """take 0 500 4 small 8
part 7 0 7 8 8
move 3 8
skip 0 8 -40 8
ask 7 more 1""" + "0" * 59 + """ 8
back
go 8
end no
end yes"""
LOT = [(0, 1, (0, 10, 255)), (1, 0, ()), (1, 1, (16, 9))]
LOT_TEXT = "0 1 000aff\n1 0 -\n1 1 1009"
WISH = ("and", ("not", ("is", ("len",), "same", 5)), ("or", ("kind", ("body",), "ping"), ("there", ("body", "id"))))
WISH_TEXT = "and not is len same 5 or kind body ping there body.id"

GOOD = ((read_grammar, show_grammar, POST, POST_TEXT), (read_end, show_end, ASKER, ASKER_TEXT), (read_rows, show_rows, ROWS, ROWS_TEXT),
        (read_lot, show_lot, LOT, LOT_TEXT))


def read_wish(text):
    return read_filter(POST, text)


READERS = (read_grammar, read_end, read_rows, read_lot, read_wish)
ALL = GOOD + ((read_wish, lambda wish: show_filter(POST, wish), WISH, WISH_TEXT),)


class Cases(unittest.TestCase):
    def so(self, read, show, thing, text):
        self.assertEqual(show(thing), text)
        told = read(text)
        self.assertEqual(repr(told), repr(thing))
        return told

    def refused(self, read, text, row):
        with self.assertRaises(NoText) as caught:
            read(text)
        self.assertEqual(caught.exception.row, row, text)


class Whole(Cases):
    def test_each_thing(self):
        for read, show, thing, text in ALL:
            self.so(read, show, thing, text)

    def test_by_names(self):
        self.assertEqual(show_grammar(grammar=POST), POST_TEXT)
        self.assertEqual(show_end(end=ASKER), ASKER_TEXT)
        self.assertEqual(show_filter(grammar=POST, wish=WISH), WISH_TEXT)
        self.assertEqual(show_rows(rows=ROWS), ROWS_TEXT)
        self.assertEqual(show_lot(lot=LOT), LOT_TEXT)
        self.assertEqual(read_grammar(text=POST_TEXT), POST)
        self.assertEqual(read_end(text=ASKER_TEXT), ASKER)
        self.assertEqual(read_filter(grammar=POST, text=WISH_TEXT), WISH)
        self.assertEqual(read_rows(text=ROWS_TEXT), ROWS)
        self.assertEqual(read_lot(text=LOT_TEXT), LOT)

    def test_a_lot_is_the_askers_own(self):
        told = read_lot(LOT_TEXT)
        told.clear()
        self.assertEqual(read_lot(LOT_TEXT), LOT)
        lot = list(LOT)
        show_lot(lot)
        self.assertEqual(lot, LOT)

    def test_an_empty_lot(self):
        self.so(read_lot, show_lot, [], "")
        self.assertIsNot(read_lot(""), read_lot(""))

    def test_small_things(self):
        self.so(read_end, show_end, (("a",), ()), "places a")
        self.so(read_rows, show_rows, (("end", True),), "end yes")
        self.so(read_rows, show_rows, (("back",), ("end", False)), "back\nend no")
        self.so(read_grammar, show_grammar, (("a", (("text", "b", 0),)),), "kind a\ntext b 0")
        self.so(read_wish, lambda wish: show_filter(POST, wish), ("yes",), "yes")


class Lengths(Cases):
    def field(self, field, text):
        grammar = (("a", (("number", "n", 1, "big", 0, 9), field)), ("b", (("text", "t", 0),)))
        self.so(read_grammar, show_grammar, grammar, "kind a\nnumber n 1 big 0 9\n" + text + "\nkind b\ntext t 0")

    def test_each_sort(self):
        for length, word in ((("is", 0), "0"), (("is", 400), "400"), (("rest",), "*"), (("of", "n", 1, 0), "n*1+0"), (("of", "n", 8, 40), "n*8+40"),
                             (("of", "n", 8, -40), "n*8-40"), (("of", "n", 2, -1), "n*2-1")):
            self.field(("bytes", "x", length), "bytes x " + word)
            self.field(("carried", "x", length, "b"), "carried x " + word + " b")
        self.field(("row", "x", "b", ("of", "n")), "row x b n")
        self.field(("row", "x", "b", ("rest",)), "row x b *")

    def test_none_by_their_form(self):
        for word in ("", "-0", "00", "01", "+5", "n", "n*", "*n", "**", "n*1", "n*1+", "n*1-", "n*1+-1", "n*1--1", "n*-1+0", "n*1+01", "n*01+1", "n*1-0", "n*1-01", "N*1+0",
                     "n*1+0+0", "n*1*1+0", "n.m*1+0", "1*1+1", "n*+1", "*1+1", "5*", "n*1 +0", "n*" + "1" * 61 + "+0", "n*1+" + "1" * 61, "n*1-" + "1" * 61, "1" * 61):
            for text in ("bytes x " + word, "carried x " + word + " b"):
                self.refused(read_grammar, "kind a\nnumber n 1 big 0 9\n" + text, 2)
        for word in ("", "5", "n*1+0", "N", "**", "n.m", "-"):
            self.refused(read_grammar, "kind a\nnumber n 1 big 0 9\nrow x b " + word, 2)

    def test_by_form_but_no_such_thing(self):
        for word in ("-5", "401", "m*1+0", "n*0+0", "n*9+0", "n*1+41", "n*1-41", "nnnnnnnnn*1+0", "n*" + "1" * 60 + "+0", "n*1+" + "1" * 60, "n*1-" + "1" * 60, "1" * 60):
            self.refused(read_grammar, "kind a\nnumber n 1 big 0 9\nbytes x " + word, None)


class Numbers(Cases):
    def test_sixty_figures_and_one_more(self):
        for number in (0, 1, -1, 10, -10, 10 ** 59, -10 ** 59, 10 ** 60 - 1, 1 - 10 ** 60):
            grammar = (("a", (("number", "n", 1, "big", 0, 9), ("choice", "c", "n", ((number, "b"),)))), ("b", (("text", "t", 0),)))
            self.so(read_grammar, show_grammar, grammar, f"kind a\nnumber n 1 big 0 9\nchoice c n {number}:b\nkind b\ntext t 0")
        for word in ("1" + "0" * 60, "-1" + "0" * 60, "0" * 2, "-0", "01", "-01", "+1", "", "-", "--1", "1-", "1.0", "x", "0x1", "1_0", "1e1"):
            self.refused(read_grammar, f"kind a\nnumber n 1 big 0 9\nchoice c n {word}:b\nkind b\ntext t 0", 2)
            self.refused(read_rows, f"take 0 {word} 1 big 1\nend no", 0)
            self.refused(read_wish, f"is len same {word}", 0)
        for read, text in ((read_rows, "take 0 -1 1 big 1\nend no"), (read_rows, "take -0\nend no"), (read_wish, "is len same -5"), (read_lot, "-1 0 -"), (read_lot, "0 2 -")):
            self.refused(read, text, 0 if "-0" in text else None)


class NoneByForm(Cases):
    def test_no_text(self):
        for read in READERS:
            for thing in (None, True, 5, b"yes", ("yes",), ["end yes"], {}, [], (), POST, object()):
                self.refused(read, thing, 0)

    def test_the_text_without_signs_but_of_a_lot(self):
        for read in READERS:
            if read != read_lot:
                self.refused(read, "", 0)

    def test_blanks_and_line_feeds(self):
        for read, _, _, text in ALL:
            rows = text.split("\n")
            for at, row in enumerate(rows):
                bent = [" " + row, row + " ", "", " "] + [row[:place] + " " + row[place:] for place, sign in enumerate(row) if sign == " "]
                for other in bent:
                    self.refused(read, "\n".join(rows[:at] + [other] + rows[at + 1:]), at)
                self.refused(read, "\n".join(rows[:at] + [""] + rows[at:]), at if read != read_wish else 0)
            self.refused(read, text + "\n", len(rows))
            self.refused(read, "\n" + text, 0)
            self.refused(read, text + "\n\n", len(rows))

    def test_a_word_more_or_fewer(self):
        for read, _, _, text in GOOD:
            rows = text.split("\n")
            for at, row in enumerate(rows):
                words = row.split(" ")
                for place in range(len(words)):
                    fewer = " ".join(words[:place] + words[place + 1:])
                    more = " ".join(words[:place] + words[place:place + 1] + words[place:])
                    for other in (fewer, more):
                        if not by_form(read, at, other):
                            self.refused(read, "\n".join(rows[:at] + [other] + rows[at + 1:]), at)

    def test_a_word_otherwise(self):
        for read, _, _, text in GOOD:
            rows = text.split("\n")
            for at, row in enumerate(rows):
                words = row.split(" ")
                for place in range(len(words)):
                    for word in ("Word", "word", "5", "-5", "-", "*", "a.b", "a:5", "5:a", "word1", "yes", "row", "kind", "places", "end", "aabbccddee", "a:b", "5:5", ":5", "a:"):
                        other = " ".join(words[:place] + [word] + words[place + 1:])
                        bent = "\n".join(rows[:at] + [other] + rows[at + 1:])
                        if not by_form(read, at, other):
                            self.refused(read, bent, at)
                        else:
                            self.known_or_none(read, bent)

    def known_or_none(self, read, text):
        """Read and written it is the same; or no such thing comes of it."""
        show = {read_grammar: show_grammar, read_end: show_end, read_rows: show_rows, read_lot: show_lot, read_wish: lambda wish: show_filter(POST, wish)}[read]
        try:
            thing = read(text)
        except NoText as refusal:
            self.assertIsNone(refusal.row, text)
        else:
            self.assertEqual(show(thing), text)

    def test_rows_left_out_twice_and_exchanged(self):
        for read, _, _, text in GOOD:
            rows = text.split("\n")
            for at in range(len(rows)):
                for bent in (rows[:at] + rows[at + 1:], rows[:at] + rows[at:at + 1] + rows[at:], rows[:at] + rows[at:at + 2][::-1] + rows[at + 2:]):
                    first = [number for number, row in enumerate(bent) if not by_form(read, number, row)]
                    if first:
                        self.refused(read, "\n".join(bent), first[0])
                    else:
                        self.known_or_none(read, "\n".join(bent))

    def test_first_rows(self):
        self.refused(read_grammar, "text t 0\nkind a\ntext t 0", 0)
        self.refused(read_end, "row a says b a\nplaces a", 0)
        self.refused(read_end, "places", 0)
        self.refused(read_end, "places a\nplaces b", 1)
        self.refused(read_end, "places a\nrow a says b a\nplaces b", 2)
        self.refused(read_grammar, "kind", 0)
        self.refused(read_grammar, "kind a b", 0)
        self.refused(read_grammar, "Kind a", 0)
        self.refused(read_rows, "yes", 0)
        self.refused(read_rows, "end", 0)
        self.refused(read_rows, "end True", 0)
        self.refused(read_rows, "back 0\nend yes", 0)

    def test_one_part_and_one_way_at_least(self):
        self.refused(read_grammar, "kind a\nbits", 1)
        self.refused(read_grammar, "kind a\nchoice c n", 1)
        self.refused(read_grammar, "kind a\nchoice c", 1)
        self.refused(read_grammar, "kind a\nbits a:8", None)
        for word in ("a", "a:", ":8", "a:b", "8:a", "a:8:8", "A:8", "a:08", "a:-0"):
            self.refused(read_grammar, "kind a\nbits a:4 " + word, 1)
            self.refused(read_grammar, "kind a\nbits " + word + " a:4", 1)
        for word in ("5", "5:", ":a", "a:5", "5:5", "05:a", "-0:a", "5:A", "5:a:a"):
            self.refused(read_grammar, "kind a\nchoice c n 0:b " + word, 1)

    def test_the_first_of_several(self):
        self.refused(read_grammar, "kind a\ntext t x\nbad\n", 1)
        self.refused(read_rows, "end maybe\nend", 0)
        self.refused(read_lot, "0 0 -\n0 0 0\n0 0", 1)


class NoSuchThing(Cases):
    def test_grammars(self):
        for text in ("kind a", "kind a\nkind b\ntext t 0", "kind abcdefghi\ntext t 0", "kind a\ntext t 256", "kind a\ntext t -1", "kind a\nnumber n 1 large 0 5",
                     "kind a\nnumber n 5 big 0 5", "kind a\nsum s none", "kind a\nrow r b *", "kind a\ncarried c 5 a", "kind a\ntext t 0\nkind a\ntext t 0",
                     "\n".join("kind " + "abcdefghijk"[at] + "\ntext t 0" for at in range(11)), "kind a\n" + "\n".join("text " + "abcdefghi"[at] + " 0" for at in range(9)),
                     "kind a\nbits " + " ".join("abcdefghi"[at] + ":1" for at in range(9)), "kind a\nbits a:5 b:4", "kind a\nbits a:9 b:-1"):
            self.refused(read_grammar, text, None)

    def test_ends(self):
        for text in ("places a a", "places a b c d e f g h i", "places abcdefghi", "places a\nrow a sings b a", "places a\nrow a says b c", "places a\nrow a says abcdefghi a",
                     "places a\nrow a says b a\nrow a says b a", "places a\n" + "\n".join("row a says " + "abcdefghijklm"[at] + " a" for at in range(13))):
            self.refused(read_end, text, None)

    def test_rows(self):
        for text in ("back", "end yes\nback", "go 0\nend yes", "go 5\nend yes", "ask 0 same 5 1\nend yes", "take 8 0 1 big 1\nend yes", "take 0 0 1 huge 1\nend yes",
                     "take 0 501 1 big 1\nend no", "part 0 0 8 1 1\nend no", "move -1 1\nend no", "skip 0 1 41 1\nend no", "\n".join(["end yes"] * 601)):
            self.refused(read_rows, text, None)
        self.assertEqual(len(read_rows("\n".join(["end yes"] * 600))), 600)

    def test_lots(self):
        for text in ("2 0 -", "0 2 00", "-1 0 00", "0 0 00\n5 5 5a"):
            self.refused(read_lot, text, None)
        for text in ("0 0 a", "0 0 abc", "0 0 AB", "0 0 ag", "0 0 --", "0 0 00 00", "0 0", "0 0 -0", "a 0 -", "0 a -", "-", "- - -", "00 0 -"):
            self.refused(read_lot, text, 0)


class Filters(Cases):
    def test_words_by_form(self):
        for text in ("same", "is", "is len", "is len same", "is len same 5 5", "is len same five", "is len 5 same", "is 5 same 5", "is .len same 5", "is len. same 5", "is body..id same 5",
                     "is Len same 5", "is len Same 5", "there", "there len len", "there 5", "kind body", "kind body 5", "kind body.5 ping", "not", "not not", "not yes yes", "and yes",
                     "and yes yes yes", "or", "or yes", "and and yes yes", "yes yes", "Yes", "not Yes", "and yes maybe", "is body.id same 5 yes", "()", "and yes, yes"):
            self.refused(read_wish, text, 0)
        for text in ("is nought same 5", "is len equal 5", "is len same -5", "there body", "kind len ping", "kind body nought", "is a.b.c.d.e same 5", "there abcdefghi",
                     "not is nought same 5", "kind body abcdefghi", "is body.list.key same 5"):
            self.refused(read_wish, text, None)

    def test_a_second_row(self):
        self.refused(read_wish, "yes\nyes", 1)
        self.refused(read_wish, "not\nyes", 0)
        self.refused(read_wish, "yes\n", 1)
        self.refused(read_wish, "there body\nyes", 1)
        self.refused(read_wish, "maybe\nyes", 0)

    def test_within_one_another(self):
        for many in range(1, 6):
            wish = ("yes",)
            for _ in range(many):
                wish = ("not", wish)
            self.so(read_wish, lambda one: show_filter(POST, one), wish, "not " * many + "yes")
        for many in (6, 7, 11, 12, 13, 200, 2200):
            self.refused(read_wish, "not " * many + "yes", None)
            self.refused(read_wish, "not " * many, 0)
            self.refused(read_wish, "not " * many + "no", 0)
            self.refused(read_wish, "and yes " * many + "yes", None)
            self.refused(read_wish, "and " * many + "yes" + " yes" * many, None)
            self.refused(read_wish, "and " * many + "yes" + " yes" * (many - 1), 0)

    def test_paths_called_like_words(self):
        grammar = (("yes", (("number", "not", 1, "big", 0, 9), ("number", "is", 1, "big", 0, 9), ("choice", "and", "is", ((1, "or"),)))), ("or", (("number", "same", 1, "big", 0, 9),)))
        for wish, text in ((("is", ("not",), "same", 5), "is not same 5"), (("there", ("is",)), "there is"), (("kind", ("and",), "or"), "kind and or"),
                           (("and", ("there", ("and", "same")), ("not", ("kind", ("and",), "yes"))), "and there and.same not kind and yes")):
            self.assertEqual(show_filter(grammar, wish), text)
            self.assertEqual(read_filter(grammar, text), wish)

    def test_the_grammar_goes_first(self):
        for grammar in (None, (), POST[:1], [POST]):
            with self.assertRaises(NoGrammar):
                read_filter(grammar, None)
            with self.assertRaises(NoGrammar):
                show_filter(grammar, None)
        self.refused(lambda text: read_filter(POST, text), None, 0)

    def test_of_the_grammar(self):
        self.assertEqual(read_filter(UPPER, "is act.id less 5"), ("is", ("act", "id"), "less", 5))
        self.refused(lambda text: read_filter(LOWER, text), "is act.id less 5", None)


class Shown(unittest.TestCase):
    def test_refused(self):
        for thing, kind, field in ((None, None, None), ((), None, None), ([], None, None), ((("a", (("text", "t", 256),)),), 0, 0), (POST[:1], 0, 2)):
            with self.assertRaises(NoGrammar) as caught:
                show_grammar(thing)
            self.assertEqual((caught.exception.kind, caught.exception.field), (kind, field))
        for thing, number in ((None, None), (ASKER[:1], None), ((ASKER[0], (None,)), 0)):
            with self.assertRaises(NoEnd) as caught:
                show_end(thing)
            self.assertEqual(caught.exception.number, number)
        for thing in (None, (), ("maybe",), ("is", ("nought",), "same", 5), ("not", None), [WISH]):
            with self.assertRaises(NoFilter):
                show_filter(POST, thing)
        for bad in NO_CATCHES:
            with self.assertRaises(NoLetter) as caught:
                show_lot(LOT + [bad])
            self.assertEqual(caught.exception.number, 3)
        for thing in (None, (), tuple(LOT), "", {}):
            with self.assertRaises(NoLetter) as caught:
                show_lot(thing)
            self.assertIsNone(caught.exception.number)


# The forms told once more, as patterns.
NAME = "[a-z]+"
FIGURES = "(0|[1-9][0-9]{0,59})"
NUMBER = "(0|-?[1-9][0-9]{0,59})"
LENGTH = rf"(\*|{NUMBER}|{NAME}\*{FIGURES}(\+{FIGURES}|-[1-9][0-9]{{0,59}}))"
KIND = f"kind {NAME}"
FIELDS = (
    f"number {NAME} {NUMBER} {NAME} {NUMBER} {NUMBER}", f"bits( {NAME}:{NUMBER})+", f"bytes {NAME} {LENGTH}", f"text {NAME} {NUMBER}",
    f"choice {NAME} {NAME}( {NUMBER}:{NAME})+", rf"row {NAME} {NAME} ({NAME}|\*)", f"sum {NAME} {NAME}", f"carried {NAME} {LENGTH} {NAME}",
)
MACHINE = (
    f"take {NUMBER} {NUMBER} {NUMBER} {NAME} {NUMBER}", f"part( {NUMBER}){{5}}", f"move( {NUMBER}){{2}}", f"skip( {NUMBER}){{4}}", f"ask {NUMBER} {NAME} {NUMBER} {NUMBER}",
    f"go {NUMBER}", "back", "end (yes|no)",
)
BYTES = "(-|([0-9a-f]{2})+)"
PATH = rf"{NAME}(\.{NAME})*"
LEAVES = ("yes", f"is {PATH} {NAME} {NUMBER}", f"there {PATH}", f"kind {PATH} {NAME}")


def is_wish_by_form(row):
    """Leaves are put for one another and joined until one is left."""
    # A leaf's own words may be called like those of filters, so leaves are marked from the left on.
    marked = ""
    words = row.split(" ")
    at = 0
    while at < len(words):
        if words[at] in ("not", "and", "or"):
            marked += {"not": "n", "and": "d", "or": "d"}[words[at]]
            at += 1
            continue
        many = {"yes": 1, "is": 4, "there": 2, "kind": 3}.get(words[at], 1)
        if not any(re.fullmatch(leaf, " ".join(words[at:at + many])) for leaf in LEAVES):
            return False
        marked += "l"
        at += many
    before = None
    while marked != before:
        before = marked
        marked = marked.replace("nl", "l").replace("dll", "l")
    return marked == "l"


def by_form(read, number, row):
    if read == read_grammar:
        forms = (KIND,) if number == 0 else (KIND,) + FIELDS
    elif read == read_end:
        forms = (f"places( {NAME})+",) if number == 0 else (f"row( {NAME}){{4}}",)
    elif read == read_rows:
        forms = MACHINE
    elif read == read_lot:
        forms = (f"{NUMBER} {NUMBER} {BYTES}",)
    else:
        return number == 0 and is_wish_by_form(row)
    return any(re.fullmatch(form, row) for form in forms)


def bend(chance, text):
    """This text with a few signs or words otherwise."""
    for _ in range(chance.choice((1, 1, 2))):
        at = chance.randrange(len(text) + 1)
        sort = chance.random()
        if sort < 0.3:
            text = text[:at] + chance.choice("ab019-*:.+ \nAz") + text[at:]
        elif sort < 0.5:
            text = text[:at] + text[at + 1:]
        elif sort < 0.7:
            text = text[:at] + chance.choice("ab019-*:.+ \nAz") + text[at + 1:]
        else:
            sign = chance.choice(" \n")
            parts = text.split(sign)
            one, other = chance.randrange(len(parts)), chance.randrange(len(parts))
            parts[one] = parts[other] if sort < 0.85 else parts[one] + sign + parts[other]
            text = sign.join(parts)
    return text


class Drawn(Cases):
    def things(self, seed):
        chance = random.Random(seed)
        for grammar, _, _ in drawn(seed + 1, 60):
            yield chance, read_grammar, show_grammar, grammar
        for _ in range(60):
            yield chance, read_end, show_end, draw_end(chance, tuple(chance.sample(("pa", "pb", "pc", "pd"), chance.randint(1, 4))), ("x", "y", "none"))
            yield chance, read_rows, show_rows, draw_rows(chance, chance.randint(1, 10))
            yield chance, read_lot, show_lot, draw_lot(chance)
        for grammar, _ in choosing(seed + 2, 60):
            numbers, choices = paths_of(grammar)
            wish = draw_filter(chance, lambda: draw_leaf(chance, grammar, numbers, choices), chance.randint(1, 6), 12)
            yield chance, lambda text, by=grammar: read_filter(by, text), lambda one, by=grammar: show_filter(by, one), wish

    def test_written_and_read_back(self):
        for _, read, show, thing in self.things(290):
            text = show(thing)
            self.so(read, show, thing, text)
            form = read if read in (read_grammar, read_end, read_rows, read_lot) else read_wish
            for number, row in enumerate(text.split("\n") if text else []):
                self.assertTrue(by_form(form, number, row), (number, row))

    def test_bent_texts(self):
        told = {"row": 0, "none": 0, "read": 0}
        for chance, read, show, thing in self.things(293):
            for _ in range(12):
                text = bend(chance, show(thing))
                form = read if read in (read_grammar, read_end, read_rows, read_lot) else read_wish
                wrong = [number for number, row in enumerate(text.split("\n")) if not by_form(form, number, row)]
                if text == "" and read == read_lot:
                    wrong = []
                try:
                    self.assertEqual(show(read(text)), text)
                    self.assertEqual(wrong, [])
                    told["read"] += 1
                except NoText as refusal:
                    self.assertEqual(refusal.row, wrong[0] if wrong else None, text)
                    told["none" if refusal.row is None else "row"] += 1
        self.assertGreater(min(told.values()), 300, told)

    def test_what_is_read_does_alike(self):
        """Rows that no one can tell apart from those that were written."""
        chance = random.Random(296)
        for _ in range(30):
            rows = draw_rows(chance, 8)
            self.assertTrue(is_rows(read_rows(show_rows(rows))))


class Places(unittest.TestCase):
    def test_stand_in_their_file(self):
        for name in ("grammar", "end", "filter", "rows", "lot"):
            for deed in ("show_", "read_"):
                self.assertEqual(getattr(texts, deed + name).__module__, "letterbench.texts")


if __name__ == "__main__":
    unittest.main()
