"""All refusals of the bench.

Those with fields leave Python's own making of an error alone: it keeps the values, in order, as they are.
"""


class BenchError(ValueError):
    """What most refusals are a kind of."""


class NoGrammar(BenchError):
    """What is no grammar: at which kind and which of its fields."""

    def __init__(self, kind, field):
        self.kind = kind
        self.field = field


class NoWorth(BenchError):
    """The path of the first field that lacks its worth or is given one that doesn't fit."""

    def __init__(self, path):
        self.path = path


class Barred(BenchError):
    """The path of the first field that can't be as a change wants it."""

    def __init__(self, path):
        self.path = path


class NoRows(BenchError):
    """What are no rows of the machine: at which row."""

    def __init__(self, number):
        self.number = number


class NoPiece(BenchError):
    """What is no piece of a stream: which one of the list."""

    def __init__(self, number):
        self.number = number


class NoEnd(BenchError):
    """What is no end: at which row."""

    def __init__(self, number):
        self.number = number


class NoCatch(BenchError):
    """What is no catch of a talk: which one of the list."""

    def __init__(self, number):
        self.number = number


class Away(BenchError):
    """A replay went away from its talk: at which letter, and what was otherwise."""

    def __init__(self, number, what):
        self.number = number
        self.what = what


class NoMake(BenchError):
    """What is no make: at which row."""

    def __init__(self, number):
        self.number = number


class NoSetting(BenchError):
    """What is no setting: which part of it."""

    def __init__(self, part):
        self.part = part


class NoLetter(BenchError):
    """What is no letter, or none that will do: which one of several."""

    def __init__(self, number):
        self.number = number


class NoText(BenchError):
    """A text of which nothing can be read: at which row."""

    def __init__(self, row):
        self.row = row


class NoFilter(BenchError):
    """What is no filter."""


class NoRelation(BenchError):
    """What is no relation."""


class NoLine(BenchError):
    """A row that a desk doesn't know."""


class NoNumber(BenchError):
    """What is no number where one is wanted."""


class NoKind(KeyError):
    """What is no name of a kind."""

    def __init__(self, name):
        self.name = name


class NoName(KeyError):
    """A name by which nothing is kept."""

    def __init__(self, name):
        self.name = name


class NoPath(IndexError):
    """A path that leads nowhere."""

    def __init__(self, path):
        self.path = path


class TooMany(OverflowError):
    """More than there may be: how many."""

    def __init__(self, many):
        self.many = many


class Bare(LookupError):
    """Asked for what isn't there or isn't due."""


class Shut(RuntimeError):
    """Asked while taking in is going on."""
