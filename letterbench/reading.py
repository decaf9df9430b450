"""Letters read by a grammar: what each byte is, and the worths of the fields."""

from letterbench.errors import NoLetter
from letterbench.forms import REST
from letterbench.grammars import ahead_of_sum, field_to_rest, kind_or_first, many_told, table_of, way_of
from letterbench.numbers import is_bytes, number_in, sum_by, sum_size


class Reading:
    """A letter while it is read: its bytes, the kinds' fields, the spreads so far."""

    def __init__(self, grammar, some):
        self.some = some
        self.table = table_of(grammar)
        self.spreads = []
        self.resting = {}

    def told(self, begin, end, path, what, worth):
        """Takes down one spread."""
        self.spreads.append((begin, end, path, what, worth))


class Thing:
    """A thing of a kind while it is read.

    Its fields may go to its limit; what is left where its reading stops goes to the end of its room. These are
    two where the bytes of a sum, of this thing or of one around it, are kept free behind what goes to the rest.
    """

    def __init__(self, path, begin, limit, end):
        self.path = path
        self.begin = begin
        self.at = begin
        self.limit = limit
        self.end = end
        self.worths = {}
        self.stopped = False


def read_well(reading, thing, end, name, what, worth):
    """Takes down a field that was read well up to this end."""
    reading.told(thing.at, end, thing.path + (name,), what, worth)
    thing.worths[name] = worth
    thing.at = end


def stop_lacking(reading, thing, name, why):
    """Stops at a field that isn't there whole."""
    reading.told(thing.at, thing.end, thing.path + (name,), "lacking", why)
    thing.stopped = True


def stop_faulty(reading, thing, end, name, why):
    """Stops at a field whose bytes, up to this end, are faulty."""
    reading.told(thing.at, end, thing.path + (name,), "faulty", why)
    if end < thing.end:
        reading.told(end, thing.end, thing.path, "unknown", "behind")
    thing.stopped = True


def read_number(reading, thing, field, limit):
    """Reads a number."""
    _, name, size, order, least, most = field
    end = thing.at + size
    if end > limit:
        stop_lacking(reading, thing, name, "short")
        return
    worth = number_in(reading.some[thing.at:end], order=order)
    if least <= worth <= most:
        read_well(reading, thing, end, name, "number", worth)
    else:
        stop_faulty(reading, thing, end, name, "range")


def worths_of_parts(byte, parts):
    """The numbers of a byte's parts, the first part being the highest bits."""
    worths = []
    below = 8
    for _, width in parts:
        below -= width
        worths.append((byte >> below) & ((1 << width) - 1))
    return worths


def read_bits(reading, thing, field, limit):
    """Reads one byte's parts; their spread goes by the first part's name."""
    parts = field[1]
    first = parts[0][0]
    if thing.at == limit:
        stop_lacking(reading, thing, first, "short")
        return
    numbers = worths_of_parts(reading.some[thing.at], parts)
    reading.told(thing.at, thing.at + 1, thing.path + (first,), "bits", tuple(numbers))
    thing.at += 1
    for (name, _), worth in zip(parts, numbers):
        thing.worths[name] = worth


def end_by(reading, thing, name, length, limit):
    """Where a field with a length ends; None where it can't be, and the reading was stopped."""
    many = many_told(length, thing.worths)
    if many is None:
        return limit
    if many < 0:
        stop_faulty(reading, thing, thing.at, name, "length")
        return None
    if thing.at + many > limit:
        stop_lacking(reading, thing, name, "short")
        return None
    return thing.at + many


def read_bytes(reading, thing, field, limit):
    """Reads bytes."""
    _, name, length = field
    end = end_by(reading, thing, name, length, limit)
    if end is not None:
        read_well(reading, thing, end, name, "bytes", reading.some[thing.at:end])


def read_text(reading, thing, field, limit):
    """Reads a text: its mark goes with it, but is no part of its worth."""
    _, name, mark = field
    end = thing.at
    while end < limit and reading.some[end] != mark:
        end += 1
    if end == limit:
        stop_lacking(reading, thing, name, "mark")
    else:
        read_well(reading, thing, end + 1, name, "text", reading.some[thing.at:end])


def read_choice(reading, thing, field, limit):
    """Reads a thing of the kind that the tag tells."""
    name = field[1]
    kind = way_of(field, thing.worths)
    if kind is None:
        reading.told(thing.at, thing.end, thing.path + (name,), "unknown", "choice")
        thing.stopped = True
        return
    inner = Thing(thing.path + (name,), thing.at, limit, thing.end)
    thing.worths[name] = (kind, inner.worths)
    read_within(reading, thing, kind, inner)


def is_row_over(thing, many, so_far, limit):
    """Whether a row with so many things so far has no more."""
    if many == REST:
        return thing.at == limit
    return so_far == thing.worths[many[1]]


def read_row(reading, thing, field, limit):
    """Reads things of a kind, as many as the tag tells or till the room ends."""
    _, name, kind, many = field
    things = []
    thing.worths[name] = things
    while not thing.stopped and not is_row_over(thing, many, len(things), limit):
        inner = Thing(thing.path + (name, len(things)), thing.at, limit, thing.end)
        things.append(inner.worths)
        read_within(reading, thing, kind, inner)


def read_sum(reading, thing, field, limit):
    """Reads a sum and compares it with that of the thing's bytes ahead of it."""
    _, name, rule = field
    end = thing.at + sum_size(rule)
    if end > limit:
        stop_lacking(reading, thing, name, "short")
        return
    worth = number_in(reading.some[thing.at:end])
    if worth == sum_by(rule, reading.some[thing.begin:thing.at]):
        read_well(reading, thing, end, name, "sum", worth)
    else:
        stop_faulty(reading, thing, end, name, "sum")


def read_carried(reading, thing, field, limit):
    """Reads a room by its kind; behind it the thing goes on however that reading ended."""
    _, name, length, kind = field
    end = end_by(reading, thing, name, length, limit)
    if end is not None:
        worths = read_room(reading, kind, thing.path + (name,), thing.at, end)
        thing.worths[name] = (kind, worths)
        thing.at = end


READERS = {
    "number": read_number,
    "bits": read_bits,
    "bytes": read_bytes,
    "text": read_text,
    "choice": read_choice,
    "row": read_row,
    "sum": read_sum,
    "carried": read_carried,
}


def limit_of(reading, thing, fields, number):
    """Where a field's bytes end at most: a sum behind what goes to the rest keeps its own."""
    if ahead_of_sum(fields, number) and field_to_rest(reading.table, fields[number], reading.resting):
        return thing.limit - sum_size(fields[-1][2])
    return thing.limit


def read_field(reading, thing, field, limit):
    """Reads one field; what goes to the rest is lacking where the sum behind it has no room for its bytes."""
    is_open = field[0] != "choice" or way_of(field, thing.worths) is not None
    if limit < thing.at and is_open:
        stop_lacking(reading, thing, field[1], "short")
        return
    read = READERS[field[0]]
    read(reading, thing, field, limit)


def read_kind(reading, kind, thing):
    """Reads a thing field by field, until one stops it."""
    fields = reading.table[kind]
    for number, field in enumerate(fields):
        read_field(reading, thing, field, limit_of(reading, thing, fields, number))
        if thing.stopped:
            return


def read_within(reading, thing, kind, inner):
    """Reads a thing that shares the room of the one around it, which goes on or stops as this one does."""
    read_kind(reading, kind, inner)
    thing.at = inner.at
    thing.stopped = inner.stopped


def read_room(reading, kind, path, begin, end):
    """Reads a room by a kind, whole; told are the worths of the thing in it."""
    thing = Thing(path, begin, end, end)
    read_kind(reading, kind, thing)
    if not thing.stopped and thing.at < end:
        reading.told(thing.at, end, path, "unknown", "left")
    return thing.worths


def read_letter(grammar, some, kind):
    """The spreads of bytes read by a kind, of None the first one, and the worths of what was read well."""
    reading = Reading(grammar, some)
    worths = read_room(reading, kind_or_first(grammar, kind), (), 0, len(some))
    return reading.spreads, worths


def spreads_of(grammar, some, *, kind=None):
    """The spreads of bytes read by a kind: (begin, end, path, what, worth) each, from the first byte to the last."""
    spreads, _ = read_letter(grammar, some, kind)
    return spreads


def is_good(spreads):
    """Whether none of these spreads is lacking or faulty."""
    return all([what not in ("lacking", "faulty") for _, _, _, what, _ in spreads])


def fields_in(grammar, some, *, kind=None):
    """The worths of a good letter's fields, by their names, nested."""
    if not is_bytes(some):
        raise NoLetter(None)
    spreads, worths = read_letter(grammar, some, kind)
    if not is_good(spreads):
        raise NoLetter(None)
    return worths
