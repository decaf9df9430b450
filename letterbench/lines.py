"""Rows that a desk is told, read by their form: a first word, and by it of which sorts the words behind are."""

from letterbench.errors import NoLine
from letterbench.signs import NOTHING, all_in, bytes_in, figure_in, name_in, path_in

FORMS = {
    "grammar": ("name", "text"),
    "end": ("name", "text"),
    "names": (),
    "read": ("name", "bytes"),
    "takes": ("name", "bytes", "text"),
    "rows": ("name", "text"),
    "set": ("name", "bytes", "steps", "worth"),
    "least": ("name", "name", "catch"),
    "book": ("figure", "name", "name", "name", "name", "name", "way", "name", "name", "last", "path"),
    "catch": ("figure", "figure", "bytes"),
    "sheet": ("figure",),
    "runs": ("figure",),
    "gone": (),
    "turn": ("name", "name"),
}


def text_in(word):
    """A text of one sign at least."""
    if not word:
        return None
    return word.replace("; ", "\n")


def step_in(word):
    """A step of a path: a name, or a number from 0."""
    name = name_in(word)
    if name is None:
        return figure_in(word)
    return name


def steps_in(word):
    """A path of names and numbers."""
    return all_in(word.split("."), step_in)


def worth_in(word):
    """A worth: a number, or bytes."""
    if word.startswith(":"):
        return bytes_in(word[1:])
    return figure_in(word)


def caught_in(word):
    """A step that was caught."""
    side, _, sort = word.partition(":")
    caught = (figure_in(side), name_in(sort))
    if None in caught:
        return None
    return caught


def catch_in(word):
    """A talk's catch."""
    if word == NOTHING:
        return []
    caught = all_in(word.split(","), caught_in)
    if caught is None:
        return None
    return list(caught)


def way_in(word):
    """A path of names, or of none."""
    if word == NOTHING:
        return ()
    return path_in(word)


def last_in(word):
    """A name or None, in a tuple."""
    if word == NOTHING:
        return (None,)
    name = name_in(word)
    if name is None:
        return None
    return (name,)


READERS = {
    "name": name_in,
    "text": text_in,
    "figure": figure_in,
    "bytes": bytes_in,
    "steps": steps_in,
    "worth": worth_in,
    "catch": catch_in,
    "path": path_in,
    "way": way_in,
    "last": last_in,
}


def line_in(row):
    """The first word of a row and the things behind; what is none by its form is refused."""
    if not isinstance(row, str) or "\n" in row:
        raise NoLine("no row of words")
    word = row.partition(" ")[0]
    sorts = FORMS.get(word)
    if sorts is None:
        raise NoLine("no row that begins so is known")
    # What is behind the last blank that parts words is all of one, which only a text may be with blanks in it.
    words = row.split(" ", len(sorts))
    if len(words) != len(sorts) + 1 or words[0] != word:
        raise NoLine("not as many words as such a row has")
    things = []
    for sort, behind in zip(sorts, words[1:]):
        read = READERS[sort]
        things.append(read(behind))
    if None in things:
        raise NoLine("a word is none by its form")
    return word, things
