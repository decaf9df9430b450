"""The form of a grammar's fields: each looked at by itself and by the names ahead of it in its kind.

These names are a dict: from each one to whether it may be a tag, which those of numbers and parts may.
"""

from letterbench.numbers import ORDERS, is_between, is_byte, is_number, is_rule, is_whole, is_word

MOST_PARTS = 8
MOST_WAYS = 6
MOST_TOLD = 400
MOST_TIMES = 8
MOST_MORE = 40
REST = ("rest",)


def is_tuple_of(thing, least, most):
    """Whether this is a tuple of so many things."""
    return isinstance(thing, tuple) and least <= len(thing) <= most


def is_fresh(thing, ahead):
    """Whether this is a word that is no name yet."""
    return is_word(thing) and thing not in ahead


def is_tag(thing, ahead):
    """Whether this is the name of a number or part ahead."""
    return is_word(thing) and thing in ahead and ahead[thing]


def is_length(thing, ahead):
    """Whether this tells the length of a field's bytes."""
    if is_tuple_of(thing, 2, 2):
        return thing[0] == "is" and is_between(thing[1], 0, MOST_TOLD)
    if is_tuple_of(thing, 4, 4):
        return (
            thing[0] == "of"
            and is_tag(thing[1], ahead)
            and is_between(thing[2], 1, MOST_TIMES)
            and is_between(thing[3], -MOST_MORE, MOST_MORE)
        )
    return thing == REST


def is_count(thing, ahead):
    """Whether this tells how many things a row has."""
    if is_tuple_of(thing, 2, 2):
        return thing[0] == "of" and is_tag(thing[1], ahead)
    return thing == REST


def is_number_field(field, ahead):
    """Whether this is a number's field."""
    if len(field) != 6:
        return False
    _, name, size, order, least, most = field
    return (
        is_fresh(name, ahead)
        and is_between(size, 1, 4)
        and order in ORDERS
        and is_number(least, size)
        and is_number(most, size)
        and least <= most
    )


def is_bits_field(field, ahead):
    """Whether this is the field of one byte's parts."""
    if len(field) != 2 or not is_tuple_of(field[1], 2, MOST_PARTS):
        return False
    names = []
    together = 0
    for part in field[1]:
        if not is_tuple_of(part, 2, 2) or not is_fresh(part[0], ahead) or part[0] in names:
            return False
        if not is_between(part[1], 1, 8):
            return False
        names.append(part[0])
        together += part[1]
    return together == 8


def is_bytes_field(field, ahead):
    """Whether this is the field of bytes."""
    return len(field) == 3 and is_fresh(field[1], ahead) and is_length(field[2], ahead)


def is_text_field(field, ahead):
    """Whether this is a text's field."""
    return len(field) == 3 and is_fresh(field[1], ahead) and is_byte(field[2])


def are_ways(thing):
    """Whether these are a choice's ways."""
    if not is_tuple_of(thing, 1, MOST_WAYS):
        return False
    worths = []
    for way in thing:
        if not is_tuple_of(way, 2, 2) or not is_whole(way[0]) or not is_word(way[1]):
            return False
        if way[0] in worths:
            return False
        worths.append(way[0])
    return True


def is_choice_field(field, ahead):
    """Whether this is a choice's field."""
    return (
        len(field) == 4
        and is_fresh(field[1], ahead)
        and is_tag(field[2], ahead)
        and are_ways(field[3])
    )


def is_row_field(field, ahead):
    """Whether this is a row's field."""
    return (
        len(field) == 4
        and is_fresh(field[1], ahead)
        and is_word(field[2])
        and is_count(field[3], ahead)
    )


def is_sum_field(field, ahead):
    """Whether this is a sum's field."""
    return len(field) == 3 and is_fresh(field[1], ahead) and is_rule(field[2])


def is_carried_field(field, ahead):
    """Whether this is a carried room's field."""
    return (
        len(field) == 4
        and is_fresh(field[1], ahead)
        and is_length(field[2], ahead)
        and is_word(field[3])
    )


FORMS = {
    "number": is_number_field,
    "bits": is_bits_field,
    "bytes": is_bytes_field,
    "text": is_text_field,
    "choice": is_choice_field,
    "row": is_row_field,
    "sum": is_sum_field,
    "carried": is_carried_field,
}


def is_field(thing, ahead):
    """Whether this is a field that may stand behind these names."""
    if not isinstance(thing, tuple) or not thing:
        return False
    if not isinstance(thing[0], str) or thing[0] not in FORMS:
        return False
    form = FORMS[thing[0]]
    return form(thing, ahead)


def names_in(field):
    """The names of a field: its parts' where it is bits, else its own."""
    if field[0] == "bits":
        return [name for name, _ in field[1]]
    return [field[1]]


def first_unlike(fields):
    """The number of the first field that isn't so by itself and those ahead; None where all are."""
    ahead = {}
    for number, field in enumerate(fields):
        if not is_field(field, ahead):
            return number
        for name in names_in(field):
            ahead[name] = field[0] in ("number", "bits")
    return None
