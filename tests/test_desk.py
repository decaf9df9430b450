"""Promise 29: a desk that is told rows of words."""

import random
import unittest

from sheetmaker import ASKER, CARRYING, LOWER, TELLER, UPPER, draw_lot, segment, setting
from test_compiling import great_grammar, joined
from test_filters_drawn import draw_filter, draw_leaf, paths_of
from test_talks import draw_ends, draw_walk
from letterbench import desk
from letterbench.book import Book
from letterbench.changing import set_at
from letterbench.compiling import rows_for
from letterbench.desk import Desk
from letterbench.errors import (
    Barred, Bare, NoCatch, NoEnd, NoGrammar, NoLetter, NoLine, NoName, NoNumber, NoPath, NoSetting, NoText, TooMany,
)
from letterbench.filters import takes
from letterbench.reading import spreads_of
from letterbench.streams import together
from letterbench.talks import talk_of
from letterbench.texts import read_rows, show_end, show_filter, show_grammar

PLAIN = (("top", (
    ("bits", (("kind", 4), ("low", 4))),
    ("choice", "way", "kind", ((1, "one"), (2, "two"))),
    ("sum", "check", "plain"),
)),
         ("one", (("number", "n", 1, "big", 0, 9), ("bytes", "body", ("of", "n", 1, 0)), ("text", "note", 0))),
         ("two", (("number", "many", 1, "big", 0, 9), ("row", "list", "pair", ("of", "many")))),
         ("pair", (("number", "a", 1, "big", 0, 200), ("bytes", "b", ("is", 2)))))
PLAIN_TEXT = show_grammar(PLAIN).replace("\n", "; ")
LOWER_TEXT = show_grammar(LOWER).replace("\n", "; ")
UPPER_TEXT = show_grammar(UPPER).replace("\n", "; ")
ASKER_TEXT = show_end(ASKER).replace("\n", "; ")
TELLER_TEXT = show_end(TELLER).replace("\n", "; ")
BOOK = "book 100 first low up ask tell way off body fin act"
BOOK_ROWS = ("catch 0 0 00", "sheet 0", "runs 0", "gone", "turn rule later")


def hexed(some):
    return "".join(f"{byte:02x}" for byte in some) or "-"


def summed(*some):
    return some + (sum(some) % 256,)


def kept():
    one = Desk()
    for row in (f"grammar low {LOWER_TEXT}", f"grammar up {UPPER_TEXT}", f"end ask {ASKER_TEXT}", f"end tell {TELLER_TEXT}", f"grammar plain {PLAIN_TEXT}"):
        assert one.say(row) == "ok"
    return one


class Cases(unittest.TestCase):
    def refused(self, one, told, error, /, **fields):
        """The row is so refused, and changes nothing."""
        ahead = state(one)
        with self.assertRaises(error) as caught:
            one.say(told)
        for field, worth in fields.items():
            self.assertEqual(getattr(caught.exception, field), worth, told)
        self.assertEqual(state(one), ahead)


def state(one):
    """All that a desk tells of what it keeps."""
    told = [len(one), one.say("names")]
    for row in ("gone", "runs 0", "runs 1", "sheet 0", "sheet 1"):
        try:
            told.append(one.say(row))
        except Bare:
            told.append(None)
    for name in one.say("names").split() if len(one) else ():
        for row in (f"read {name} 01", f"least {name} {name} 0:ask"):
            try:
                told.append(one.say(row))
            except NoName:
                told.append(None)
    return told


class Kept(Cases):
    def test_nothing_at_first(self):
        one = Desk()
        self.assertEqual((len(one), one.say("names")), (0, "-"))

    def test_names(self):
        one = kept()
        self.assertEqual((len(one), one.say("names")), (5, "ask low plain tell up"))
        self.assertEqual(one.say(row="names"), "ask low plain tell up")
        one.say(f"grammar abcdefghijklmnop {PLAIN_TEXT}")
        self.assertEqual((len(one), one.say("names")), (6, "abcdefghijklmnop ask low plain tell up"))

    def test_kept_anew(self):
        one = kept()
        self.assertEqual(one.say("read low 05"), "0 1 sort number 5; 1 1 way unknown choice")
        self.assertEqual(one.say("grammar low kind a; text t 0"), "ok")
        self.assertEqual(one.say("read low 0500"), "0 2 t text 05")
        self.assertEqual(len(one), 5)

    def test_a_grammar_in_the_stead_of_an_end(self):
        one = kept()
        self.assertEqual(one.say(f"grammar ask {PLAIN_TEXT}"), "ok")
        self.refused(one, "least ask tell -", NoName, name="ask")
        self.assertEqual(one.say("read ask 05")[:12], "0 1 kind bit")
        self.assertEqual(one.say(f"end low {ASKER_TEXT}"), "ok")
        self.refused(one, "read low 05", NoName, name="low")
        self.assertEqual(one.say("least low tell 0:ask"), "least 0")
        self.assertEqual(len(one), 5)

    def test_a_ninth_name(self):
        one = kept()
        for name in ("a", "b", "c"):
            self.assertEqual(one.say(f"end {name} places x"), "ok")
        self.assertEqual(len(one), 8)
        self.refused(one, "end d places x", TooMany, many=9)
        self.refused(one, f"grammar d {PLAIN_TEXT}", TooMany, many=9)
        self.refused(one, "end d places", NoText, row=0)
        self.refused(one, "grammar d kind a", NoText, row=None)
        self.assertEqual(one.say("end a places x y"), "ok")
        self.assertEqual(one.say(f"grammar b {PLAIN_TEXT}"), "ok")
        self.assertEqual(len(one), 8)

    def test_two_desks(self):
        one, other = kept(), Desk()
        other.say("grammar low kind a; text t 0")
        self.assertEqual((one.say("names"), other.say("names")), ("ask low plain tell up", "low"))
        self.assertEqual(one.say("read low 05"), "0 1 sort number 5; 1 1 way unknown choice")
        one.say(BOOK)
        self.refused(other, "gone", Bare)
        self.assertFalse(one == other)
        self.assertIs(one == 5, False)

    def test_texts(self):
        one = Desk()
        for text, row in (("x", 0), (" kind a; text t 0", 0), ("kind a; text t 0 ", 1), ("kind a;text t 0", 0), ("kind a;  text t 0", 1), ("kind a; ", 1), ("kind a; text t 0; ", 2),
                          ("; ", 0), (" ", 0), ("kind a; text t 256", None), ("places a", 0)):
            self.refused(one, f"grammar a {text}", NoText, row=row)
        for text, row in (("x", 0), ("places a; row", 1), ("places a; places b", 1), ("places a a", None), ("kind a; text t 0", 0)):
            self.refused(one, f"end a {text}", NoText, row=row)
        self.assertEqual(len(one), 0)


class Read(Cases):
    def setUp(self):
        self.one = kept()

    def test_spreads(self):
        some = summed(0x13, 3, 7, 8, 9, 65, 66, 0)
        self.assertEqual(self.one.say(f"read plain {hexed(some)}"),
                         f"0 1 kind bits 1,3; 1 2 way.n number 3; 2 5 way.body bytes 070809; 5 8 way.note text 4142; 8 9 check sum {some[-1]}")
        some = summed(0x10, 0, 0)
        self.assertEqual(self.one.say(f"read plain {hexed(some)}"), f"0 1 kind bits 1,0; 1 2 way.n number 0; 2 2 way.body bytes -; 2 3 way.note text -; 3 4 check sum {some[-1]}")
        some = summed(0x20, 1, 5, 6, 7)
        self.assertEqual(self.one.say(f"read plain {hexed(some)}00"),
                         f"0 1 kind bits 2,0; 1 2 way.many number 1; 2 3 way.list.0.a number 5; 3 5 way.list.0.b bytes 0607; 5 6 check sum {some[-1]}; 6 7 - unknown left")

    def test_faults(self):
        self.assertEqual(self.one.say("read plain -"), "0 0 kind lacking short")
        self.assertEqual(self.one.say("read plain 100aff"), "0 1 kind bits 1,0; 1 2 way.n faulty range; 2 3 way unknown behind")
        self.assertEqual(self.one.say("read plain 9000"), "0 1 kind bits 9,0; 1 2 way unknown choice")
        self.assertEqual(self.one.say("read plain 10000005"), "0 1 kind bits 1,0; 1 2 way.n number 0; 2 2 way.body bytes -; 2 3 way.note text -; 3 4 check faulty sum")

    def test_no_spreads(self):
        self.one.say("grammar none kind a; row r b *; kind b; text t 0")
        self.assertEqual(self.one.say("read none -"), "-")

    def test_names(self):
        self.refused(self.one, "read ask 00", NoName, name="ask")
        self.refused(self.one, "read nought 00", NoName, name="nought")
        self.refused(self.one, "read grammar 00", NoName, name="grammar")

    def test_drawn(self):
        chance = random.Random(300)
        for _ in range(100):
            some = tuple(chance.choice((0, 1, 2, 3, 0x10, 0x20, 200)) for _ in range(chance.randint(0, 9)))
            told = self.one.say(f"read plain {hexed(some)}").split("; ")
            self.assertEqual([spread.split(" ")[:4] for spread in told],
                             [[str(begin), str(end), ".".join(map(str, path)) or "-", what] for begin, end, path, what, _ in spreads_of(PLAIN, some)])


class Filters(Cases):
    def setUp(self):
        self.one = kept()

    def test_takes(self):
        for text, answer in (("yes", "yes"), ("not yes", "no"), ("is kind same 1", "yes"), ("and kind way one is way.n more 1", "no"), ("there way.n", "yes")):
            self.assertEqual(self.one.say(f"takes plain 100100 {text}"), answer)
        self.assertEqual(self.one.say("takes plain - there kind"), "no")

    def test_rows(self):
        self.assertEqual(self.one.say("rows plain yes").split("; ")[-2:], ["end yes", "end no"])
        for text in ("is kind same 1", "and kind way one is way.n more 1"):
            told = self.one.say(f"rows plain {text}")
            self.assertNotIn("\n", told)
            self.assertEqual(read_rows(told.replace("; ", "\n")), rows_for(PLAIN, wish_of(text)))

    def test_refused(self):
        for text, row in (("", None), ("maybe", 0), (" yes", 0), ("yes ", 0), ("yes; yes", 1), ("yes; ", 1), ("is kind same", 0), ("is nought same 5", None), ("there way", None)):
            error = NoText if text else NoLine
            fields = {"row": row} if text else {}
            self.refused(self.one, f"takes plain 00 {text}", error, **fields)
            self.refused(self.one, f"rows plain {text}", error, **fields)
        self.refused(self.one, "takes nought 00 maybe", NoName, name="nought")
        self.refused(self.one, "rows tell maybe", NoName, name="tell")

    def test_too_many(self):
        grammar = great_grammar(6)
        text = show_grammar(grammar).replace("\n", "; ")
        self.assertEqual(self.one.say(f"grammar great {text}"), "ok")
        wish = joined([("is", ("way", "way", "way", name), "same", 5) for name in "abcd"])
        with self.assertRaises(TooMany) as caught:
            rows_for(grammar, wish)
        self.refused(self.one, "rows great " + show_filter(grammar, wish), TooMany, many=caught.exception.many)

    def test_drawn(self):
        chance = random.Random(301)
        numbers, choices = paths_of(PLAIN)
        for _ in range(100):
            wish = draw_filter(chance, lambda: draw_leaf(chance, PLAIN, numbers, choices), 4, 8)
            some = tuple(chance.choice((0, 1, 2, 3, 0x10, 0x20, 200)) for _ in range(chance.randint(0, 6)))
            text = show_filter(PLAIN, wish)
            self.assertEqual(self.one.say(f"takes plain {hexed(some)} {text}"), "yes" if takes(PLAIN, wish, some) else "no")
            self.assertEqual(read_rows(self.one.say(f"rows plain {text}").replace("; ", "\n")), rows_for(PLAIN, wish))


def wish_of(text):
    return {"is kind same 1": ("is", ("kind",), "same", 1),
            "and kind way one is way.n more 1": ("and", ("kind", ("way",), "one"), ("is", ("way", "n"), "more", 1))}[text]


class Sets(Cases):
    def setUp(self):
        self.one = kept()
        self.some = summed(0x13, 1, 7, 65, 0)
        self.rows = summed(0x20, 2, 5, 6, 7, 8, 9, 10)

    def so(self, some, path, word, steps, worth):
        self.assertEqual(self.one.say(f"set plain {hexed(some)} {path} {word}"), hexed(set_at(PLAIN, some, steps, worth)))

    def test_each_sort_of_worth(self):
        self.so(self.some, "low", "15", ("low",), 15)
        self.so(self.some, "way.body", ":0708090a", ("way", "body"), (7, 8, 9, 10))
        self.so(self.some, "way.body", ":-", ("way", "body"), ())
        self.so(self.some, "way.note", ":ff", ("way", "note"), (255,))
        self.so(self.rows, "way.list.1.a", "200", ("way", "list", 1, "a"), 200)
        self.so(self.rows, "way.list.0.b", ":0000", ("way", "list", 0, "b"), (0, 0))
        self.assertEqual(self.one.say(f"set plain {hexed(summed(0x10, 0, 0))} low 1"), hexed(summed(0x11, 0, 0)))

    def test_refused(self):
        some = hexed(self.some)
        self.refused(self.one, f"set plain {some} low 16", Barred, path=("low",))
        self.refused(self.one, f"set plain {some} low :00", Barred, path=("low",))
        self.refused(self.one, f"set plain {some} way.n 2", Barred, path=("way", "n"))
        self.refused(self.one, f"set plain {some} way.body 2", Barred, path=("way", "body"))
        self.refused(self.one, f"set plain {some} way.note :00", Barred, path=("way", "note"))
        for path, steps in (("way", ("way",)), ("nought", ("nought",)), ("0", (0,)), ("way.list.0.a", ("way", "list", 0, "a")), ("way.0", ("way", 0)),
                            ("abcdefghijkl", ("abcdefghijkl",))):
            self.refused(self.one, f"set plain {some} {path} 2", NoPath, path=steps)
        self.refused(self.one, f"set plain {hexed(self.rows)} way.list.2.a 2", NoPath, path=("way", "list", 2, "a"))
        self.refused(self.one, f"set plain {some}00 low 2", NoLetter, number=None)
        self.refused(self.one, "set plain - nought 2", NoLetter, number=None)
        self.refused(self.one, "set ask - nought 2", NoName, name="ask")


class Least(Cases):
    def test_catches(self):
        one = kept()
        for catch, answer in (("-", "least 0"), ("0:ask", "least 0"), ("0:ask,0:ask", "least 1"), ("0:ask,0:thanks", "least 1"), ("0:ask,0:nought", "against 1"),
                              ("1:ask", "against 0"), ("0:ask,1:no,0:ask,1:yes,0:thanks", "least 0")):
            self.assertEqual(one.say(f"least ask tell {catch}"), answer)
        self.assertEqual(one.say("least tell ask 1:ask"), "least 0")
        self.assertEqual(one.say("least ask ask -"), "least 0")

    def test_refused(self):
        one = kept()
        self.refused(one, "least ask tell 2:ask", NoCatch, number=0)
        self.refused(one, "least ask tell 0:ask,0:asksasksa", NoCatch, number=1)
        self.refused(one, "least ask tell " + ",".join(["0:ask"] * 61), NoCatch, number=None)
        self.assertEqual(one.say("least ask tell " + ",".join(["0:ask"] * 60)), "least 59")
        self.refused(one, "least low tell 2:ask", NoName, name="low")
        self.refused(one, "least ask up 2:ask", NoName, name="up")
        self.refused(one, "least nought bad -", NoName, name="nought")

    def test_drawn(self):
        chance = random.Random(302)
        one = Desk()
        for _ in range(60):
            ends = draw_ends(chance)
            for name, end in zip(("a", "b"), ends):
                text = show_end(end).replace("\n", "; ")
                one.say(f"end {name} {text}")
            catch = [step for step in draw_walk(chance, ends, 6) if chance.random() < 0.7]
            told = talk_of(ends, catch)
            words = ",".join(f"{side}:{sort}" for side, sort in catch) or "-"
            self.assertEqual(one.say(f"least a b {words}"), f"{told[0]} {told[1]}")


class Books(Cases):
    def setUp(self):
        self.one = kept()
        self.assertEqual(self.one.say(BOOK), "ok")

    def test_bare_where_there_is_none(self):
        one = kept()
        for row in BOOK_ROWS + ("turn nought nought", "turn lower nought", "catch 9 9 -", "runs 9"):
            self.refused(one, row, Bare)

    def test_catches(self):
        self.assertEqual(self.one.say("catch 0 0 -"), "1")
        self.assertEqual(self.one.say(f"catch 1 1 {hexed(segment(0, (3, 5)))}"), "2")
        for row in ("catch 2 0 00", "catch 0 2 00", "catch " + "9" * 60 + " 0 -"):
            self.refused(self.one, row, NoLetter, number=0)
        self.assertEqual(self.one.say("catch 0 0 00"), "3")

    def test_sheets(self):
        self.assertEqual(self.one.say("sheet 0"), "-")
        self.one.say(f"catch 0 0 {hexed(segment(0, (1, 7, 9)))}")
        self.one.say(f"catch 0 0 {hexed(segment(0, (1,)))}00")
        self.one.say("catch 0 0 -")
        self.assertEqual(self.one.say("sheet 0"), "0 1 sort number - - -; 1 3 way.off number - - -; 3 4 way.fin bits - - -; 4 5 way.len number - - -; "
                         "5 6 way.body bytes 0:stands 0:tag:number 0:sure; 6 7 way.body bytes 1:stands 0:act.id:number 0:sure; "
                         "7 8 way.body bytes 2:stands - -; 8 9 way.check sum - - -")
        self.assertEqual(self.one.say("sheet 1").split("; ")[4:], ["5 6 way.body bytes 0:again - -", "6 7 way.check sum - - -", "7 8 - unknown - - -"])
        self.assertEqual(self.one.say("sheet 2"), "0 0 sort lacking - - -")
        for number in ("3", "100", "9" * 60):
            self.assertEqual(self.one.say(f"sheet {number}"), "-")

    def test_an_upper_spread_without_a_path(self):
        self.one.say("grammar up kind a; carried r 2 b; kind b; text t 0")
        self.one.say(BOOK)
        self.one.say(f"catch 0 0 {hexed(segment(0, (0, 9)))}")
        self.assertEqual(self.one.say("sheet 0").split("; ")[4:6], ["5 6 way.body bytes 0:stands 0:r.t:text 0:against", "6 7 way.body bytes 1:stands 0:r:unknown 0:against"])
        self.one.say("grammar up kind a; number n 1 big 1 1")
        self.one.say(BOOK)
        self.one.say(f"catch 0 0 {hexed(segment(0, (0, 9), fin=1))}")
        self.assertEqual(self.one.say("sheet 0").split("; ")[4:6], ["5 6 way.body bytes 0:stands 0:n:faulty 0:against", "6 7 way.body bytes 1:stands 0:-:unknown 0:against"])

    def test_runs(self):
        self.assertEqual([self.one.say("runs 0"), self.one.say("runs 1")], ["-", "-"])
        for place, body in ((0, (1, 7)), (5, (8,)), (9, ()), (1, (9, 9))):
            self.one.say(f"catch 0 0 {hexed(segment(place, body))}")
        self.assertEqual(self.one.say("runs 0"), "0 010709; 5 08")
        self.one.say("turn rule later")
        self.assertEqual(self.one.say("runs 0"), "0 010909; 5 08")
        self.assertEqual(self.one.say("runs 1"), "-")
        for row in ("runs 2", "runs " + "9" * 60):
            self.refused(self.one, row, NoNumber)

    def test_gone(self):
        self.assertEqual(self.one.say("gone"), "0 5381")
        self.one.say("book 2 first low up ask tell way off body fin act")
        for number in range(4):
            self.assertEqual(self.one.say(f"catch 0 0 0{number}"), str(min(2, number + 1)))
        self.assertEqual(self.one.say("gone"), f"2 {((5381 * 33 + 0) * 33 + 1) % 65536}")

    def test_turns(self):
        self.assertEqual(self.one.say("turn rule first"), "-")
        self.assertEqual(self.one.say("turn rule later"), "streams")
        self.one.say(f"catch 0 0 {hexed(segment(0, (1, 7)))}")
        self.one.say(f"catch 0 0 {hexed(segment(0, (4,)))}")
        self.assertEqual(self.one.say("turn rule first"), "streams upper talk")
        self.assertEqual(self.one.say("turn upper low"), "upper talk")
        self.assertEqual(self.one.say("turn upper up"), "upper talk")
        self.assertEqual(self.one.say("turn lower low"), "-")
        self.one.say(f"grammar other {LOWER_TEXT}; kind spare; text t 0")
        self.assertEqual(self.one.say("turn lower other"), "reading")

    def test_turns_refused(self):
        self.refused(self.one, "turn lower up", NoSetting, part="carrying")
        for part in ("rule", "sort", "carrying", "ends"):
            for name in ("nought", "low", "act"):
                self.refused(self.one, f"turn {part} {name}", NoSetting, part=part)
        self.refused(self.one, "turn nought low", NoSetting, part=None)
        self.refused(self.one, "turn abcdefghijkl later", NoSetting, part=None)
        for part in ("lower", "upper"):
            self.refused(self.one, f"turn {part} nought", NoName, name="nought")
            self.refused(self.one, f"turn {part} ask", NoName, name="ask")

    def test_it_keeps_what_it_was_begun_with(self):
        self.one.say(f"catch 0 0 {hexed(segment(0, (1, 7)))}")
        told = self.one.say("sheet 0")
        for row in ("grammar low kind a; text t 0", "grammar up kind a; text t 0", "end ask places x", f"grammar tell {PLAIN_TEXT}"):
            self.assertEqual(self.one.say(row), "ok")
        self.assertEqual(self.one.say("sheet 0"), told)
        self.assertEqual(self.one.say("turn rule first"), "-")
        self.assertEqual(self.one.say("turn upper up"), "upper talk")
        self.refused(self.one, BOOK, NoName, name="tell")

    def test_begun_anew(self):
        self.one.say("catch 0 0 -")
        self.refused(self.one, BOOK.replace("act", "act.abcdefghi"), NoSetting, part="sort")
        self.assertEqual(self.one.say("sheet 0"), "0 0 sort lacking - - -")
        self.assertEqual(self.one.say(BOOK), "ok")
        self.assertEqual(self.one.say("sheet 0"), "-")

    def test_books(self):
        for row in (BOOK.replace("way", "-").replace("off body fin", "len body fin"), BOOK.replace("100", "0"), BOOK.replace("100", "201"), BOOK.replace("first", "last"),
                    BOOK.replace("fin", "check"), BOOK.replace("act", "act.abcdefghi"), BOOK.replace(" way ", " way.way.way.way ")):
            wanted = {"0": (NoNumber, {}), "2": (NoNumber, {})}.get(row.split()[1][0])
            if wanted is None:
                part = "rule" if "last" in row else "sort" if "abcdefghi" in row else "carrying"
                wanted = (NoSetting, {"part": part})
            self.refused(self.one, row, wanted[0], **wanted[1])
        self.refused(self.one, BOOK.replace("100 first", "0 last"), NoSetting, part="rule")
        self.refused(self.one, BOOK.replace("low up", "up low"), NoSetting, part="carrying")
        self.assertEqual(self.one.say(BOOK.replace("fin", "-")), "ok")
        self.assertEqual(self.one.say(BOOK.replace("act", "act.room.core")), "ok")
        self.assertEqual(self.one.say("grammar flat kind a; number off 1 big 0 9; bytes body 2"), "ok")
        self.assertEqual(self.one.say("book 200 later flat up ask tell - off body - act"), "ok")
        self.assertEqual(self.one.say("catch 0 0 000107"), "1")
        self.assertEqual(self.one.say("runs 0"), "0 0107")
        self.assertEqual(self.one.say("book 1 later flat flat ask ask - off body off x"), "ok")

    def test_names_of_a_book_in_their_order(self):
        words = BOOK.split(" ")
        for at, other in ((3, "ask"), (4, "tell"), (5, "low"), (6, "up")):
            for name in ("nought", other):
                bad = words[:at] + [name] + words[at + 1:]
                self.refused(self.one, " ".join(bad), NoName, name=name)
                bad[1] = "0"
                bad[2] = "last"
                self.refused(self.one, " ".join(bad), NoName, name=name)
                for behind in range(at + 1, 7):
                    self.refused(self.one, " ".join(bad[:behind] + ["bad"] + bad[behind + 1:]), NoName, name=name)

    def test_drawn(self):
        chance = random.Random(303)
        for _ in range(20):
            lot = draw_lot(chance)
            room = chance.choice((2, 200))
            self.one.say(BOOK.replace("100", str(room)))
            other = Book(setting(), room=room)
            for tap, side, some in lot:
                other.take([(tap, side, some)])
                self.assertEqual(self.one.say(f"catch {tap} {side} {hexed(some)}"), str(len(other)))
            self.assertEqual(self.one.say("gone"), "{} {}".format(*other.gone()))
            for side in (0, 1):
                runs = together(other.pieces_of_side(side))["runs"]
                self.assertEqual(self.one.say(f"runs {side}"), "; ".join(f"{begin} {hexed(some)}" for begin, some in runs) or "-")
            for letter in range(len(other) + 1):
                rows = ["{} {} {} {} {} {} {}".format(row[1], row[2], dotted(row[3]), row[4], colons(row[6]), colons(row[7]), colons(row[8]))
                        for row in other.sheet() if row[0] == letter]
                self.assertEqual(self.one.say(f"sheet {letter}"), "; ".join(rows) or "-")


def dotted(path):
    return ".".join(map(str, path)) or "-"


def colons(layer):
    if layer is None:
        return "-"
    return ":".join(dotted(thing) if isinstance(thing, tuple) else str(thing) for thing in layer)


class NoLines(Cases):
    GOOD = ("names", "read plain 00", "takes plain 00 yes", "rows plain yes", "set plain 00 low 5", "set plain 00 a.0.b :00", "least ask tell 0:ask,1:no", "least ask tell -", BOOK,
            "catch 0 0 00", "catch 0 0 -", "sheet 0", "runs 0", "gone", "turn rule later", "end a places x", f"grammar a {PLAIN_TEXT}")

    def test_no_text(self):
        for one in (Desk(), kept()):
            for row in (None, True, 5, b"names", ["names"], ("names",), {}, object(), "", " ", "\n", "names\n", "\nnames", "read plain 00\n", "grammar a kind a\ntext t 0"):
                self.refused(one, row, NoLine)

    def test_no_such_row(self):
        for row in ("name", "Names", "nought", "-", "5", "grammars a kind", "say names", "len", "is", "yes"):
            self.refused(kept(), row, NoLine)

    def test_words_more_and_fewer(self):
        one = kept()
        for row in self.GOOD:
            words = row.split(" ")
            if words[0] in ("grammar", "end", "takes", "rows"):
                many = 3 if words[0] == "takes" else 2
                for fewer in range(1, many + 1):
                    self.refused(one, " ".join(words[:fewer]), NoLine)
                self.refused(one, " ".join(words[:many]) + " ", NoLine)
            else:
                for at in range(len(words)):
                    self.refused(one, " ".join(words[:at] + words[at + 1:]), NoLine)
                self.refused(one, row + " more", NoLine)
                self.refused(one, row + " ", NoLine)
            self.refused(one, " " + row, NoLine)
            for at in range(1, min(len(words), 3)):
                if words[0] not in ("grammar", "end", "rows") or at == 1:
                    self.refused(one, " ".join(words[:at]) + "  " + " ".join(words[at:]), NoLine)

    def test_each_word_otherwise(self):
        names = ("", "5", "-", "Low", "l0w", "a.b", "a:b", "*")
        figures = ("", "-", "-1", "-0", "00", "01", "x", "1" * 61, "+1", "1.0", "0x1")
        some = ("", "0", "000", "0A", "0g", "--", "00-", ":00", "zz", "0.0")
        paths = ("", ".", "a.", ".a", "a..b", "A", "a:b", "a-b", "*")
        bad = {
            "grammar NAME kind": {"NAME": names}, "end NAME places": {"NAME": names}, "read NAME BYTES": {"NAME": names, "BYTES": some},
            "takes NAME BYTES yes": {"NAME": names, "BYTES": some}, "rows NAME yes": {"NAME": names},
            "set NAME BYTES PATH WORTH": {"NAME": names, "BYTES": some, "PATH": paths + ("-", "a.01", "a.-1", "a.b-"), "WORTH": figures + (":", ":0", ":0A", ":5", "::00", "00:", "-:00")},
            "least NAME OTHER CATCH": {"NAME": names, "OTHER": names, "CATCH": ("", "0", "0:", ":ask", "ask", "0:ask,", ",0:ask", "0:ask,,0:ask", "-1:ask", "0:Ask", "00:ask",
                                                                              "0:ask:ask", "0:ask,-", "ask:0", "0:5", "--")},
            "catch TAP SIDE BYTES": {"TAP": figures, "SIDE": figures, "BYTES": some}, "sheet FIGURE": {"FIGURE": figures}, "runs FIGURE": {"FIGURE": figures},
            "turn PART NAME": {"PART": names, "NAME": names},
            "book ROOM RULE LOWER UPPER END OTHER PATH PLACE BODY LAST SORT": {
                "ROOM": figures, "RULE": names, "LOWER": names, "UPPER": names, "END": names, "OTHER": names, "PATH": paths + ("0", "a.0"), "PLACE": names, "BODY": names,
                "LAST": tuple(name for name in names if name != "-"), "SORT": paths + ("-", "0", "a.0")},
        }
        good = {"NAME": "low", "OTHER": "tell", "BYTES": "00", "PATH": "way", "WORTH": "5", "CATCH": "0:ask", "TAP": "0", "SIDE": "0", "FIGURE": "0", "PART": "rule", "ROOM": "5",
                "RULE": "first", "LOWER": "low", "UPPER": "up", "END": "ask", "PLACE": "off", "BODY": "body", "LAST": "fin", "SORT": "act"}
        for one in (kept(), Desk()):
            for form, words in bad.items():
                for name, others in words.items():
                    for other in others:
                        row = " ".join(other if word == name else good.get(word, word) for word in form.split(" "))
                        self.refused(one, row, NoLine)

    def test_by_form_they_may_be_greater(self):
        one = kept()
        one.say(BOOK)
        self.refused(one, "read abcdefghijkl 00", NoName, name="abcdefghijkl")
        self.refused(one, "turn abcdefghijkl x", NoSetting, part=None)
        self.refused(one, "book " + "9" * 60 + BOOK[8:], NoNumber)
        self.refused(one, BOOK.replace("first", "abcdefghijkl"), NoSetting, part="rule")
        self.refused(one, BOOK.replace("off", "abcdefghijkl"), NoSetting, part="carrying")
        self.refused(one, BOOK.replace(" way ", " a.b.c.d "), NoSetting, part="carrying")
        self.refused(one, "least ask tell 5:abcdefghijkl", NoCatch, number=0)

    def test_the_order_of_refusals(self):
        one = Desk()
        self.refused(one, "turn lower", NoLine)
        self.refused(one, "turn lower nought", Bare)
        self.refused(one, "catch 9 9 0", NoLine)
        self.refused(one, "catch 9 9 00", Bare)
        self.refused(one, "takes nought 0 maybe", NoLine)
        self.refused(one, "takes nought 00 maybe", NoName, name="nought")
        self.refused(one, "set nought 00 0 5", NoName, name="nought")
        self.refused(one, "least nought bad 9:x", NoName, name="nought")
        one = kept()
        one.say(BOOK)
        self.refused(one, "turn lower nought", NoName, name="nought")
        for name in ("a", "b", "c"):
            one.say(f"end {name} places x")
        self.refused(one, "grammar nine maybe", NoText, row=0)
        self.refused(one, "grammar nine kind a; text t 0", TooMany, many=9)
        self.refused(one, "grammar Nine kind a; text t 0", NoLine)


class Unheard(unittest.TestCase):
    def test_only_these_refusals(self):
        """Whatever row is told, it is answered with a text or refused."""
        chance = random.Random(304)
        one = kept()
        one.say(BOOK)
        words = ["grammar", "end", "names", "read", "takes", "rows", "set", "least", "book", "catch", "sheet", "runs", "gone", "turn", "low", "up", "ask", "tell", "plain", "0", "1", "5",
                 "00", "100100", "-", "way", "yes", "not", "is", "there", "kind", "act", "fin", "0:ask", "1:no", ":00", "way.n", "lower", "rule", "later", "first", "places", "x", "off", "body"]
        answered = 0
        for _ in range(4000):
            row = " ".join(chance.choice(words) for _ in range(chance.randint(1, 5)))
            try:
                self.assertIsInstance(one.say(row), str)
                answered += 1
            except (NoLine, Bare, NoName, NoText, NoGrammar, NoEnd, NoSetting, NoCatch, NoLetter, NoNumber, NoPath, Barred, TooMany):
                pass
        self.assertGreater(answered, 20)


class Places(unittest.TestCase):
    def test_stand_in_their_file(self):
        self.assertEqual(Desk.__module__, "letterbench.desk")
        self.assertIs(desk.Desk, Desk)
        for name in ("say", "__len__"):
            self.assertIn(name, vars(Desk))
        self.assertEqual(CARRYING[1], "off")


if __name__ == "__main__":
    unittest.main()
