"""Single words of texts and of rows that a desk is told, each sort of them read by its form alone, and written.

Of what is none by its form None is told, which nothing is that can be read.
"""

from letterbench.forms import REST
from letterbench.numbers import LETTERS

FIGURES = "0123456789"
PAIRED = "0123456789abcdef"
MOST_FIGURES = 60
NOTHING = "-"
TO_REST = "*"


def name_in(word):
    """One or more small letters."""
    if word and all([sign in LETTERS for sign in word]):
        return word
    return None


def figure_in(word):
    """A whole number without a sign ahead, in figures without a nought ahead."""
    if not 1 <= len(word) <= MOST_FIGURES or not all([sign in FIGURES for sign in word]):
        return None
    if word[0] == "0" and word != "0":
        return None
    return int(word)


def whole_in(word):
    """A whole number; of one below nought a sign is ahead of the figures."""
    if not word.startswith("-"):
        return figure_in(word)
    number = figure_in(word[1:])
    if number is None or number == 0:
        return None
    return -number


def truth_in(word):
    """A truth."""
    if word in ("yes", "no"):
        return word == "yes"
    return None


def bytes_in(word):
    """Bytes, two signs each."""
    if word == NOTHING:
        return ()
    if not word or len(word) % 2 != 0 or not all([sign in PAIRED for sign in word]):
        return None
    return tuple([PAIRED.index(word[at]) * 16 + PAIRED.index(word[at + 1]) for at in range(0, len(word), 2)])


def all_in(words, read):
    """What each of these words is read to by a def, a tuple; None where one is none by its form."""
    things = tuple([read(word) for word in words])
    if None in things:
        return None
    return things


def path_in(word):
    """A path of names."""
    return all_in(word.split("."), name_in)


def way_in(word):
    """A path of names, or of none."""
    if word == NOTHING:
        return ()
    return path_in(word)


def step_in(word):
    """A step of a path: a name, or a number from 0."""
    name = name_in(word)
    if name is None:
        return figure_in(word)
    return name


def steps_in(word):
    """A path of names and numbers."""
    return all_in(word.split("."), step_in)


def length_by_tag(word):
    """A length that hangs on a tag."""
    tag, _, behind = word.partition(TO_REST)
    sign = "-" if "-" in behind else "+"
    times, _, more = behind.partition(sign)
    length = ("of", name_in(tag), figure_in(times), whole_in("-" + more) if sign == "-" else figure_in(more))
    if None in length:
        return None
    return length


def length_in(word):
    """A length of bytes."""
    if word == TO_REST:
        return REST
    if TO_REST in word:
        return length_by_tag(word)
    many = whole_in(word)
    if many is None:
        return None
    return ("is", many)


def many_in(word):
    """How many things a row has."""
    if word == TO_REST:
        return REST
    tag = name_in(word)
    if tag is None:
        return None
    return ("of", tag)


def worth_in(word):
    """A worth of a field: a number, or bytes."""
    if word.startswith(":"):
        return bytes_in(word[1:])
    return figure_in(word)


def caught_in(word):
    """A step of a talk that was caught."""
    side, _, sort = word.partition(":")
    caught = (figure_in(side), name_in(sort))
    if None in caught:
        return None
    return caught


def catch_in(word):
    """A talk's catch."""
    if word == NOTHING:
        return []
    caught = all_in(word.split(","), caught_in)
    if caught is None:
        return None
    return list(caught)


def last_in(word):
    """A name or None, in a tuple."""
    if word == NOTHING:
        return (None,)
    name = name_in(word)
    if name is None:
        return None
    return (name,)


def text_in(word):
    """A text of one sign at least, in which two signs stand for each line feed."""
    if not word:
        return None
    return word.replace("; ", "\n")


READERS = {
    "name": name_in,
    "figure": figure_in,
    "whole": whole_in,
    "truth": truth_in,
    "bytes": bytes_in,
    "path": path_in,
    "way": way_in,
    "steps": steps_in,
    "length": length_in,
    "many": many_in,
    "worth": worth_in,
    "catch": catch_in,
    "last": last_in,
    "text": text_in,
}


def things_in(sorts, words):
    """The things that words of these sorts are read to, a tuple."""
    if len(words) != len(sorts):
        return None
    things = []
    for sort, word in zip(sorts, words):
        read = READERS[sort]
        things.append(read(word))
    if None in things:
        return None
    return tuple(things)


def same_text(thing):
    """A name or a number as a word."""
    return str(thing)


def truth_text(truth):
    """A truth as a word."""
    return "yes" if truth else "no"


def bytes_text(some):
    """Bytes as a word."""
    if not some:
        return NOTHING
    return "".join([PAIRED[byte >> 4] + PAIRED[byte & 15] for byte in some])


def path_text(path):
    """A path as a word."""
    if not path:
        return NOTHING
    return ".".join([str(step) for step in path])


def length_text(length):
    """A length of bytes as a word."""
    if length[0] == "is":
        return str(length[1])
    if length[0] == "of":
        _, tag, times, more = length
        return f"{tag}*{times}{more:+}"
    return TO_REST


def many_text(many):
    """How many things a row has, as a word."""
    if many == REST:
        return TO_REST
    return many[1]


WRITERS = {
    "name": same_text,
    "whole": same_text,
    "truth": truth_text,
    "bytes": bytes_text,
    "path": path_text,
    "length": length_text,
    "many": many_text,
}


def words_of(sorts, things):
    """The words that things of these sorts are written as."""
    words = []
    for sort, thing in zip(sorts, things):
        write = WRITERS[sort]
        words.append(write(thing))
    return words
