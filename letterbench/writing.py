"""Letters written from the worths of their fields."""

from letterbench.errors import NoWorth
from letterbench.forms import REST, is_tuple_of
from letterbench.grammars import bounds_of, kind_or_first, many_told, table_of, way_of
from letterbench.numbers import bytes_of, is_between, is_bytes, is_whole, number_in, sum_bytes


class Draft:
    """A thing while it is written: the kinds' fields, its worths, its path, its bytes so far."""

    def __init__(self, table, worths, path):
        self.table = table
        self.worths = worths
        self.path = path
        self.some = []


def fits(field, name, worth):
    """Whether this is a worth of a number, part, bytes or text, as far as the field alone tells."""
    if field[0] in ("number", "bits"):
        least, most = bounds_of(field, name)
        return is_between(worth, least, most)
    if field[0] == "text":
        return is_bytes(worth) and field[2] not in worth
    return is_bytes(worth) and (field[2][0] != "is" or len(worth) == field[2][1])


def fitting(draft, field, name):
    """The worth that is told of a number, part, bytes or text."""
    worth = draft.worths.get(name)
    if not fits(field, name, worth):
        raise NoWorth(draft.path + (name,))
    return worth


def look_at_length(draft, field, many):
    """Refuses so many bytes of a field whose length is another one."""
    if many_told(field[2], draft.worths) not in (None, many):
        raise NoWorth(draft.path + (field[1],))


def write_number(draft, field):
    """The bytes of a number."""
    _, name, size, order, _, _ = field
    return bytes_of(fitting(draft, field, name), size, order=order)


def write_bits(draft, field):
    """The byte of its parts."""
    byte = 0
    for name, width in field[1]:
        byte = (byte << width) | fitting(draft, field, name)
    return (byte,)


def write_bytes(draft, field):
    """Bytes as they are told."""
    some = fitting(draft, field, field[1])
    look_at_length(draft, field, len(some))
    return some


def write_text(draft, field):
    """A text and its mark."""
    _, name, mark = field
    return fitting(draft, field, name) + (mark,)


def write_within(draft, field, kind):
    """The bytes of the thing of this kind that a choice or a room has."""
    path = draft.path + (field[1],)
    worth = draft.worths.get(field[1])
    if not is_tuple_of(worth, 2, 2) or worth[0] != kind or not isinstance(worth[1], dict):
        raise NoWorth(path)
    return write_thing(draft.table, kind, worth[1], path)


def write_choice(draft, field):
    """The bytes of a thing of the kind that the tag tells."""
    kind = way_of(field, draft.worths)
    if kind is None:
        raise NoWorth(draft.path + (field[1],))
    return write_within(draft, field, kind)


def write_row(draft, field):
    """The bytes of a row's things, which are looked at behind their count."""
    _, name, kind, many = field
    path = draft.path + (name,)
    things = draft.worths.get(name)
    if not isinstance(things, list) or (many != REST and len(things) != draft.worths[many[1]]):
        raise NoWorth(path)
    some = []
    for number, thing in enumerate(things):
        if not isinstance(thing, dict):
            raise NoWorth(path + (number,))
        some.extend(write_thing(draft.table, kind, thing, path + (number,)))
    return tuple(some)


def write_sum(draft, field):
    """The bytes of the sum, which may be told or left out."""
    _, name, rule = field
    some = sum_bytes(rule, draft.some)
    if name in draft.worths:
        worth = draft.worths[name]
        if not is_whole(worth) or worth != number_in(some):
            raise NoWorth(draft.path + (name,))
    return some


def write_carried(draft, field):
    """The bytes of a room, whose length is looked at behind what is within."""
    some = write_within(draft, field, field[3])
    look_at_length(draft, field, len(some))
    return some


WRITERS = {
    "number": write_number,
    "bits": write_bits,
    "bytes": write_bytes,
    "text": write_text,
    "choice": write_choice,
    "row": write_row,
    "sum": write_sum,
    "carried": write_carried,
}


def write_thing(table, kind, worths, path):
    """The bytes of a thing of this kind at this path."""
    draft = Draft(table, worths, path)
    for field in table[kind]:
        write = WRITERS[field[0]]
        some = write(draft, field)
        draft.some.extend(some)
    return tuple(draft.some)


def written(grammar, fields, *, kind=None):
    """The bytes of a thing of this kind, of None the first one, with these fields."""
    if not isinstance(fields, dict):
        raise NoWorth(())
    return write_thing(table_of(grammar), kind_or_first(grammar, kind), fields, ())
