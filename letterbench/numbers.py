"""Words, whole numbers, bytes; numbers and sums in bytes."""

from letterbench.errors import NoNumber

LETTERS = "abcdefghijklmnopqrstuvwxyz"
MOST_LETTERS = 8
ORDERS = ("big", "small")
WORDS = ("same", "less", "more")
SUM_SIZES = {"plain": 1, "placed": 2, "mixed": 2}
MIXED_BEGIN = 5381


def is_word(thing):
    """Whether this is a text of one to eight small letters."""
    return (
        isinstance(thing, str)
        and 1 <= len(thing) <= MOST_LETTERS
        and all([letter in LETTERS for letter in thing])
    )


def is_whole(thing):
    """Whether this is an int that is neither True nor False."""
    return isinstance(thing, int) and not isinstance(thing, bool)


def is_between(thing, least, most):
    """Whether this is a whole number within these bounds."""
    return is_whole(thing) and least <= thing <= most


def is_byte(thing):
    """Whether this is a whole number from 0 to 255."""
    return is_between(thing, 0, 255)


def is_bytes(thing):
    """Whether this is a tuple of bytes."""
    return isinstance(thing, tuple) and all([is_byte(byte) for byte in thing])


def is_number(thing, size):
    """Whether this is a number of this size."""
    return is_whole(thing) and thing >= 0 and thing.bit_length() <= 8 * size


def is_so(number, word, worth):
    """Whether a number is same as, less or more than a worth."""
    if word == "same":
        return number == worth
    if word == "less":
        return number < worth
    return number > worth


def bytes_of(number, size, *, order="big"):
    """The bytes in which a number of this size is."""
    if not is_number(number, size):
        raise NoNumber("not a number of this size")
    lowest_first = tuple([(number >> (8 * place)) & 255 for place in range(size)])
    if order == "small":
        return lowest_first
    return lowest_first[::-1]


def number_in(some, *, order="big"):
    """The number that is in these bytes."""
    highest_first = some
    if order == "small":
        highest_first = some[::-1]
    number = 0
    for byte in highest_first:
        number = number * 256 + byte
    return number


def is_rule(thing):
    """Whether this is a rule by which sums are made."""
    return isinstance(thing, str) and thing in SUM_SIZES


def sum_size(rule):
    """In how many bytes a sum by this rule is."""
    return SUM_SIZES[rule]


def mixed_on(so_far, some):
    """What a mixed sum is so far, gone on with over these bytes."""
    worth = so_far
    for byte in some:
        worth = (worth * 33 + byte) % 65536
    return worth


def sum_by(rule, some):
    """The sum of these bytes by this rule."""
    if rule == "plain":
        return sum(some) % 256
    if rule == "placed":
        return sum([place * byte for place, byte in enumerate(some, start=1)]) % 65521
    return mixed_on(MIXED_BEGIN, some)


def sum_bytes(rule, some):
    """The bytes in which the sum of these bytes is."""
    return bytes_of(sum_by(rule, some), sum_size(rule))
