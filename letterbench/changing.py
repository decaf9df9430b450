"""Letters with a field set anew, or a thing put into a row or taken out, and all that hangs on it led along.

Worths are those of a letter's fields, nested, which are this file's own to change. The things on a path are told
from the whole letter inward: a list of tuples (kind, worths, path).
"""

from letterbench.errors import Barred, NoLetter, NoNumber, NoPath
from letterbench.forms import names_in
from letterbench.grammars import bounds_of, field_called, length_of, table_of
from letterbench.numbers import is_between, is_bytes
from letterbench.reading import is_good, read_letter
from letterbench.writing import fits, write_thing, written

SETTABLE = ("number", "bits", "bytes", "text")


def worths_whole(grammar, some):
    """The worths of a letter that is good and has no unknown spread."""
    if not is_bytes(some):
        raise NoLetter(None)
    spreads, worths = read_letter(grammar, some, None)
    if not is_good(spreads) or any([what == "unknown" for _, _, _, what, _ in spreads]):
        raise NoLetter(None)
    return worths


def thing_within(field, worths, steps):
    """The thing of a field that a path's next steps, two at least, lead to, as (kind, worths, steps); else None."""
    if field is None or field[0] not in ("choice", "carried", "row"):
        return None
    worth = worths[field[1]]
    if field[0] != "row":
        kind, inner = worth
        return kind, inner, steps[:1]
    if not is_between(steps[1], 0, len(worth) - 1):
        return None
    return field[2], worth[steps[1]], steps[:2]


def things_on(table, first, worths, path):
    """The things on a path, the last one being that in which its last name should be; None where it leads nowhere."""
    things = [(first, worths, ())]
    at = 0
    while at < len(path) - 1:
        kind, inner, ahead = things[-1]
        within = thing_within(field_called(table, kind, path[at]), inner, path[at:])
        if within is None:
            return None
        kind, inner, steps = within
        things.append((kind, inner, ahead + steps))
        at += len(steps)
    if at != len(path) - 1:
        return None
    return things


class Place:
    """Where a letter is to be changed: the things on the path, the field there and its name."""

    def __init__(self, table, things, field, name):
        self.table = table
        self.things = things
        self.field = field
        self.name = name


def place_at(grammar, worths, path, words):
    """The place of a field of these sorts; all other paths are refused."""
    if not isinstance(path, tuple):
        raise NoPath(path)
    table = table_of(grammar)
    things = things_on(table, grammar[0][0], worths, path)
    if things is None:
        raise NoPath(path)
    field = field_called(table, things[-1][0], path[-1])
    if field is None or field[0] not in words:
        raise NoPath(path)
    return Place(table, things, field, path[-1])


def length_now(table, field, worths):
    """How many bytes, or things of a row, a field with a length has."""
    worth = worths[field[1]]
    if field[0] != "carried":
        return len(worth)
    kind, inner = worth
    return len(write_thing(table, kind, inner, ()))


def want_of(table, field, worths, tag):
    """The worth that a field wants of a tag: of a length that no whole number gives None."""
    if field[0] == "choice":
        return worths[tag]
    many = length_now(table, field, worths)
    if field[0] == "row":
        return many
    _, _, times, more = length_of(field)
    if (many - more) % times != 0:
        return None
    return (many - more) // times


def hangs_on(field, tag):
    """Whether a field hangs on this tag."""
    if field[0] == "choice":
        return field[2] == tag
    length = length_of(field)
    return length is not None and length[0] == "of" and length[1] == tag


def wants_of(table, kind, worths, tag):
    """The worths that the fields that hang on a tag want of it."""
    return [want_of(table, field, worths, tag) for field in table[kind] if hangs_on(field, tag)]


def lead_tags(table, field, thing):
    """Leads along each number or part of a field, where something hangs on it."""
    kind, worths, path = thing
    for tag in names_in(field):
        wants = wants_of(table, kind, worths, tag)
        least, most = bounds_of(field, tag)
        if not all([is_between(want, least, most) and want == wants[0] for want in wants]):
            raise Barred(path + (tag,))
        if wants:
            worths[tag] = wants[0]


def lead_thing(table, thing):
    """Leads along all that hangs on a change in this thing; its sums are left out, so that they are made anew."""
    kind, worths, path = thing
    for field in table[kind]:
        if field[0] in ("number", "bits"):
            lead_tags(table, field, thing)
        elif field[0] == "sum":
            worths.pop(field[1], None)
        elif field[0] == "carried" and field[2][0] == "is":
            if length_now(table, field, worths) != field[2][1]:
                raise Barred(path + (field[1],))


def led_along(place):
    """The letter that was changed at a place, all led along from the thing there outward."""
    for thing in reversed(place.things):
        lead_thing(place.table, thing)
    kind, worths, path = place.things[0]
    return write_thing(place.table, kind, worths, path)


def set_at(grammar, some, path, worth):
    """The letter with this worth at this path."""
    place = place_at(grammar, worths_whole(grammar, some), path, SETTABLE)
    kind, worths, _ = place.things[-1]
    if not fits(place.field, place.name, worth):
        raise Barred(path)
    if any([want != worth for want in wants_of(place.table, kind, worths, place.name)]):
        raise Barred(path)
    worths[place.name] = worth
    return led_along(place)


def row_at_place(place):
    """The things of the row at a place."""
    _, worths, _ = place.things[-1]
    return worths[place.name]


def put_in(grammar, some, path, number, fields):
    """The letter with a thing of these fields put into the row at this path, at this number."""
    place = place_at(grammar, worths_whole(grammar, some), path, ("row",))
    things = row_at_place(place)
    if not is_between(number, 0, len(things)):
        raise NoNumber("no number at which a thing can be put in")
    written(grammar, fields, kind=place.field[2])
    things.insert(number, fields)
    return led_along(place)


def taken_out(grammar, some, path, number):
    """The letter without the thing with this number of the row at this path."""
    place = place_at(grammar, worths_whole(grammar, some), path, ("row",))
    things = row_at_place(place)
    if not is_between(number, 0, len(things) - 1):
        raise NoNumber("no number of a thing")
    del things[number]
    return led_along(place)
