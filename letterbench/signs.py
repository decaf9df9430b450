"""Single words of texts: written, and read by their form alone.

Of what is none by its form None is told, which nothing is that can be read.
"""

from letterbench.numbers import LETTERS

FIGURES = "0123456789"
PAIRED = "0123456789abcdef"
MOST_FIGURES = 60
NOTHING = "-"


def name_in(word):
    """The word itself, where it is one or more small letters."""
    if word and all([sign in LETTERS for sign in word]):
        return word
    return None


def figure_in(word):
    """A whole number without a sign, in figures without a nought ahead."""
    if not 1 <= len(word) <= MOST_FIGURES or not all([sign in FIGURES for sign in word]):
        return None
    if word[0] == "0" and word != "0":
        return None
    return int(word)


def whole_in(word):
    """A whole number; of one below nought a sign is ahead of the figures."""
    if not word.startswith("-"):
        return figure_in(word)
    number = figure_in(word[1:])
    if number is None or number == 0:
        return None
    return -number


def bytes_in(word):
    """Bytes, two signs each."""
    if word == NOTHING:
        return ()
    if not word or len(word) % 2 != 0 or not all([sign in PAIRED for sign in word]):
        return None
    return tuple([PAIRED.index(word[at]) * 16 + PAIRED.index(word[at + 1]) for at in range(0, len(word), 2)])


def all_in(words, read):
    """What each of these words is read to by a def, a tuple; None where one is none by its form."""
    things = tuple([read(word) for word in words])
    if None in things:
        return None
    return things


def path_in(word):
    """A path of names."""
    return all_in(word.split("."), name_in)


def truth_in(word):
    """A truth."""
    if word in ("yes", "no"):
        return word == "yes"
    return None


def bytes_text(some):
    """Bytes as a word."""
    if not some:
        return NOTHING
    return "".join([PAIRED[byte >> 4] + PAIRED[byte & 15] for byte in some])


def path_text(path):
    """A path as a word."""
    if not path:
        return NOTHING
    return ".".join([str(step) for step in path])


def truth_text(truth):
    """A truth as a word."""
    return "yes" if truth else "no"


def joined_or_nothing(words, between):
    """Words with signs between them; where there are none the word for nothing."""
    if not words:
        return NOTHING
    return between.join(words)
