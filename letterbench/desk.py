"""A desk that is told rows of words and answers with such: it keeps grammars and ends by names, and a book."""

from letterbench.book import Book
from letterbench.changing import set_at
from letterbench.compiling import rows_for
from letterbench.errors import Bare, NoLine, NoName, TooMany
from letterbench.filters import takes
from letterbench.reading import spreads_of
from letterbench.signs import NOTHING, bytes_text, path_text, things_in, truth_text
from letterbench.streams import together
from letterbench.talks import talk_of
from letterbench.texts import read_end, read_filter, read_grammar, show_rows

MOST_NAMES = 8
# By a row's first word the sorts of those behind.
FORMS = {
    "grammar": ("name", "text"),
    "end": ("name", "text"),
    "names": (),
    "read": ("name", "bytes"),
    "takes": ("name", "bytes", "text"),
    "rows": ("name", "text"),
    "set": ("name", "bytes", "steps", "worth"),
    "least": ("name", "name", "catch"),
    "book": ("figure", "name", "name", "name", "name", "name", "way", "name", "name", "last", "path"),
    "catch": ("figure", "figure", "bytes"),
    "sheet": ("figure",),
    "runs": ("figure",),
    "gone": (),
    "turn": ("name", "name"),
}
OF_BOOK = ("catch", "sheet", "runs", "gone", "turn")


class Shelf:
    """What a desk keeps: by names grammars and ends, each a tuple (word, thing), and the book."""

    def __init__(self):
        self.kept = {}
        self.book = None


def line_in(row):
    """The first word of a row and the things behind; what is none by its form is refused."""
    if not isinstance(row, str) or "\n" in row:
        raise NoLine("no row of words")
    word = row.partition(" ")[0]
    sorts = FORMS.get(word)
    if sorts is None:
        raise NoLine("no row that begins so is known")
    # Behind as many blanks as part words all is of the last word, which may have blanks in it where it is a text.
    words = row.split(" ", len(sorts))
    things = things_in(sorts, words[1:])
    if words[0] != word or things is None:
        raise NoLine("a word is none by its form, or there are more or fewer")
    return word, things


def joined(words, between):
    """Words with signs between them; where there are none the word for nothing."""
    if not words:
        return NOTHING
    return between.join(words)


def kept_as(shelf, word, name):
    """The grammar or end that is kept by a name."""
    if name not in shelf.kept or shelf.kept[name][0] != word:
        raise NoName(name)
    return shelf.kept[name][1]


def keep(shelf, word, name, thing):
    """Keeps a thing by a name."""
    if name not in shelf.kept and len(shelf.kept) == MOST_NAMES:
        raise TooMany(MOST_NAMES + 1)
    shelf.kept[name] = (word, thing)
    return "ok"


def say_grammar(shelf, things):
    """Keeps a grammar."""
    name, text = things
    return keep(shelf, "grammar", name, read_grammar(text))


def say_end(shelf, things):
    """Keeps an end."""
    name, text = things
    return keep(shelf, "end", name, read_end(text))


def say_names(shelf, _things):
    """Tells the names."""
    return joined(sorted(shelf.kept), " ")


def worth_text(what, worth):
    """The worth of a spread as a word."""
    if what == "bits":
        return ",".join([str(number) for number in worth])
    if what in ("bytes", "text"):
        return bytes_text(worth)
    return str(worth)


def say_read(shelf, things):
    """Tells how bytes are read."""
    name, some = things
    told = []
    for begin, end, path, what, worth in spreads_of(kept_as(shelf, "grammar", name), some):
        told.append(f"{begin} {end} {path_text(path)} {what} {worth_text(what, worth)}")
    return joined(told, "; ")


def say_takes(shelf, things):
    """Tells whether a filter takes bytes."""
    name, some, text = things
    grammar = kept_as(shelf, "grammar", name)
    return truth_text(takes(grammar, read_filter(grammar, text), some))


def say_rows(shelf, things):
    """Tells the rows of the machine that a filter is made to."""
    name, text = things
    grammar = kept_as(shelf, "grammar", name)
    return show_rows(rows_for(grammar, read_filter(grammar, text))).replace("\n", "; ")


def say_set(shelf, things):
    """Tells a letter with a field set anew."""
    name, some, path, worth = things
    return bytes_text(set_at(kept_as(shelf, "grammar", name), some, path, worth))


def say_least(shelf, things):
    """Tells how few steps of a talk must have been missed."""
    one, other, catch = things
    ends = (kept_as(shelf, "end", one), kept_as(shelf, "end", other))
    told = talk_of(ends, catch)
    return f"{told[0]} {told[1]}"


def say_book(shelf, things):
    """Begins a book."""
    room, rule, lower, upper, one, other, path, place, body, last, sort = things
    setting = {
        "lower": kept_as(shelf, "grammar", lower),
        "carrying": (path, place, body) + last,
        "rule": rule,
        "upper": kept_as(shelf, "grammar", upper),
        "sort": sort,
        "ends": (kept_as(shelf, "end", one), kept_as(shelf, "end", other)),
    }
    shelf.book = Book(setting, room=room)
    return "ok"


def say_catch(shelf, things):
    """Takes in a letter that was caught, and tells how many are held."""
    tap, side, some = things
    shelf.book.take([(tap, side, some)])
    return str(len(shelf.book))


def layer_text(layer):
    """What a row of a sheet tells of a stream, an upper letter or a step, as a word."""
    if layer is None:
        return NOTHING
    return ":".join([path_text(thing) if isinstance(thing, tuple) else str(thing) for thing in layer])


def say_sheet(shelf, things):
    """Tells the sheet's rows of one letter."""
    told = []
    for letter, begin, end, path, what, _, stream, upper, step in shelf.book.sheet():
        if letter == things[0]:
            layers = " ".join([layer_text(layer) for layer in (stream, upper, step)])
            told.append(f"{begin} {end} {path_text(path)} {what} {layers}")
    return joined(told, "; ")


def say_runs(shelf, things):
    """Tells the runs of a side's stream."""
    pieces = shelf.book.pieces_of_side(things[0])
    runs = together(pieces, rule=shelf.book.settings()["rule"])["runs"]
    return joined([f"{begin} {bytes_text(some)}" for begin, some in runs], "; ")


def say_gone(shelf, _things):
    """Tells how many letters went, and the sum of their bytes."""
    many, worth = shelf.book.gone()
    return f"{many} {worth}"


def say_turn(shelf, things):
    """Turns a part of the book's setting, and tells what has other things to go by."""
    part, name = things
    thing = name
    if part in ("lower", "upper"):
        thing = kept_as(shelf, "grammar", name)
    return joined(shelf.book.turn(part, thing), " ")


DEEDS = {
    "grammar": say_grammar,
    "end": say_end,
    "names": say_names,
    "read": say_read,
    "takes": say_takes,
    "rows": say_rows,
    "set": say_set,
    "least": say_least,
    "book": say_book,
    "catch": say_catch,
    "sheet": say_sheet,
    "runs": say_runs,
    "gone": say_gone,
    "turn": say_turn,
}


class Desk:
    """A desk, with nothing on it at first."""

    def __init__(self):
        self._shelf = Shelf()

    def say(self, row):
        """The answer to a row of words."""
        word, things = line_in(row)
        if word in OF_BOOK and self._shelf.book is None:
            raise Bare("no book was begun")
        deed = DEEDS[word]
        return deed(self._shelf, things)

    def __len__(self):
        return len(self._shelf.kept)
