"""Grammars, ends, filters, rows of the machine and lots written as texts, and read from these.

Of what is none by its form None is told, which nothing is that can be read.
"""

from letterbench.ends import is_end, look_at_end
from letterbench.errors import NoText
from letterbench.filters import is_filter, look_at_filter
from letterbench.grammars import is_grammar, look_at_grammar
from letterbench.rows import is_rows
from letterbench.sheet import is_catch, look_at_lot
from letterbench.signs import all_in, name_in, things_in, words_of

# The sorts of the words behind a row's first one.
KIND = ("name",)
FIELDS = {
    "number": ("name", "whole", "name", "whole", "whole"),
    "bytes": ("name", "length"),
    "text": ("name", "whole"),
    "row": ("name", "name", "many"),
    "sum": ("name", "name"),
    "carried": ("name", "length", "name"),
}
# A choice's ways stand behind these.
CHOICE = ("name", "name")
END_ROW = ("name", "name", "name", "name")
# Filters within a filter stand behind these.
FILTERS = {
    "yes": (),
    "is": ("path", "name", "whole"),
    "there": ("path",),
    "kind": ("path", "name"),
    "not": (),
    "and": (),
    "or": (),
}
# How many filters a filter has within it.
WITHIN = {"not": 1, "and": 2, "or": 2}
MACHINE = {
    "take": ("whole", "whole", "whole", "name", "whole"),
    "part": ("whole", "whole", "whole", "whole", "whole"),
    "move": ("whole", "whole"),
    "skip": ("whole", "whole", "whole", "whole"),
    "ask": ("whole", "name", "whole", "whole"),
    "go": ("whole",),
    "back": (),
    "end": ("truth",),
}
CATCH = ("whole", "whole", "bytes")


def rows_in(text, read):
    """What the rows of a text are read to by a def, which is handed each one's number and words."""
    if not isinstance(text, str):
        raise NoText(0)
    things = []
    for number, row in enumerate(text.split("\n")):
        thing = read(number, row.split(" "))
        if thing is None:
            raise NoText(number)
        things.append(thing)
    return things


def text_of_rows(rows):
    """Rows of words as a text."""
    return "\n".join([" ".join(words) for words in rows])


def part_in(word):
    """A part of bits."""
    name, _, width = word.partition(":")
    return things_in(("name", "whole"), [name, width])


def way_in(word):
    """A way of a choice."""
    worth, _, kind = word.partition(":")
    return things_in(("whole", "name"), [worth, kind])


def bits_in(words):
    """The field of one byte's parts, of the words behind its first one."""
    parts = all_in(words, part_in)
    if not parts:
        return None
    return ("bits", parts)


def choice_in(words):
    """A choice's field, of the words behind its first one."""
    things = things_in(CHOICE, words[:2])
    ways = all_in(words[2:], way_in)
    if things is None or not ways:
        return None
    return ("choice",) + things + (ways,)


def row_by(sorts, words):
    """A row whose words behind the first one are of these sorts, which are None where its first word is none."""
    if sorts is None:
        return None
    things = things_in(sorts, words[1:])
    if things is None:
        return None
    return (words[0],) + things


def grammar_row_in(number, words):
    """A kind without its fields, or a field."""
    if words[0] == "kind":
        return row_by(KIND, words)
    if number == 0:
        return None
    if words[0] == "bits":
        return bits_in(words[1:])
    if words[0] == "choice":
        return choice_in(words[1:])
    return row_by(FIELDS.get(words[0]), words)


def read_grammar(text):
    """The grammar that is so written."""
    kinds = []
    for row in rows_in(text, grammar_row_in):
        if row[0] == "kind":
            kinds.append((row[1], []))
        else:
            kinds[-1][1].append(row)
    grammar = tuple([(name, tuple(fields)) for name, fields in kinds])
    if not is_grammar(grammar):
        raise NoText(None)
    return grammar


def field_words(field):
    """The words of a field."""
    word = field[0]
    if word == "bits":
        return [word] + [f"{name}:{width}" for name, width in field[1]]
    if word == "choice":
        _, name, tag, ways = field
        return [word, name, tag] + [f"{worth}:{kind}" for worth, kind in ways]
    return [word] + words_of(FIELDS[word], field[1:])


def show_grammar(grammar):
    """A grammar as a text."""
    look_at_grammar(grammar)
    rows = []
    for name, fields in grammar:
        rows.append(["kind", name])
        rows.extend([field_words(field) for field in fields])
    return text_of_rows(rows)


def end_row_in(number, words):
    """An end's places, or a row of it."""
    if number > 0:
        return row_by(END_ROW, words) if words[0] == "row" else None
    places = all_in(words[1:], name_in)
    if words[0] != "places" or not places:
        return None
    return places


def read_end(text):
    """The end that is so written."""
    rows = rows_in(text, end_row_in)
    end = (rows[0], tuple([row[1:] for row in rows[1:]]))
    if not is_end(end):
        raise NoText(None)
    return end


def show_end(end):
    """An end as a text."""
    look_at_end(end)
    places, rows = end
    return text_of_rows([["places", *places]] + [["row", *row] for row in rows])


def filter_row_in(number, words):
    """The filters of the one row in order, each without those within it."""
    if number > 0:
        return None
    heads = []
    lacking = 1
    at = 0
    while lacking > 0:
        if at >= len(words) or words[at] not in FILTERS:
            return None
        behind = at + 1 + len(FILTERS[words[at]])
        heads.append(row_by(FILTERS[words[at]], words[at:behind]))
        lacking += WITHIN.get(words[at], 0) - 1
        at = behind
    if None in heads or at < len(words):
        return None
    return heads


def joined_filter(heads):
    """The filter of which these are the filters in order, each without those within it."""
    done = []
    for head in heads[::-1]:
        within = [done.pop() for _ in range(WITHIN.get(head[0], 0))]
        done.append(head + tuple(within))
    return done[0]


def read_filter(grammar, text):
    """The filter of a grammar that is so written."""
    look_at_grammar(grammar)
    wish = joined_filter(rows_in(text, filter_row_in)[0])
    if not is_filter(grammar, wish):
        raise NoText(None)
    return wish


def filter_words(wish):
    """The words of a filter."""
    word = wish[0]
    if word not in WITHIN:
        return [word] + words_of(FILTERS[word], wish[1:])
    words = [word]
    for inner in wish[1:]:
        words.extend(filter_words(inner))
    return words


def show_filter(grammar, wish):
    """A filter of a grammar as a text."""
    look_at_filter(grammar, wish)
    return text_of_rows([filter_words(wish)])


def machine_row_in(_number, words):
    """A row of the machine."""
    return row_by(MACHINE.get(words[0]), words)


def read_rows(text):
    """The rows of the machine that are so written."""
    rows = tuple(rows_in(text, machine_row_in))
    if not is_rows(rows):
        raise NoText(None)
    return rows


def show_rows(rows):
    """Rows of the machine as a text."""
    return text_of_rows([[row[0]] + words_of(MACHINE[row[0]], row[1:]) for row in rows])


def catch_in(_number, words):
    """A letter that was caught."""
    return things_in(CATCH, words)


def read_lot(text):
    """The lot that is so written."""
    if text == "":
        return []
    lot = rows_in(text, catch_in)
    if not all([is_catch(catch) for catch in lot]):
        raise NoText(None)
    return lot


def show_lot(lot):
    """A lot as a text."""
    look_at_lot(lot)
    return text_of_rows([words_of(CATCH, catch) for catch in lot])
