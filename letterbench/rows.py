"""Rows of the machine: looked at, and run on bytes."""

from letterbench.forms import is_tuple_of
from letterbench.numbers import ORDERS, WORDS, is_between, is_so, is_whole, number_in

MOST_ROWS = 600
BOXES = 8

# What stands behind a row's word, in order.
FORMS = {
    "take": ("box", "far", "size", "order", "to"),
    "part": ("box", "far", "shift", "width", "to"),
    "move": ("far", "to"),
    "skip": ("box", "times", "more", "to"),
    "ask": ("box", "word", "worth", "to"),
    "go": ("to",),
    "back": (),
    "end": ("truth",),
}
BOUNDS = {
    "box": (0, 7),
    "far": (0, 500),
    "size": (1, 4),
    "shift": (0, 7),
    "width": (1, 8),
    "times": (1, 8),
    "more": (-40, 40),
}


def is_part(sort, thing, at, many):
    """Whether this may stand in a row, by what is to stand there; the row is number at of so many."""
    if sort == "to":
        return is_between(thing, at + 1, many - 1)
    if sort == "order":
        return thing in ORDERS
    if sort == "word":
        return thing in WORDS
    if sort == "worth":
        return is_whole(thing) and thing >= 0
    if sort == "truth":
        return isinstance(thing, bool)
    least, most = BOUNDS[sort]
    return is_between(thing, least, most)


def is_row(thing, at, many):
    """Whether this is, by its form, row number at of so many."""
    if not isinstance(thing, tuple) or not thing or not isinstance(thing[0], str) or thing[0] not in FORMS:
        return False
    form = FORMS[thing[0]]
    if len(thing) != len(form) + 1 or (at == many - 1 and thing[0] != "end"):
        return False
    return all([is_part(sort, part, at, many) for sort, part in zip(form, thing[1:])])


def first_no_row(thing):
    """The number of the first of these that is no row there by its form; None where all are."""
    for at, row in enumerate(thing):
        if not is_row(row, at, len(thing)):
            return at
    return None


def ways_from(at, row, boxes):
    """Where a row leads to, as tuples (number, boxes): boxes are one bit for each that is set there."""
    word = row[0]
    if word == "end":
        return []
    if word == "go":
        return [(row[1], boxes)]
    if word == "back":
        return [(at + 1, boxes)]
    if word in ("take", "part"):
        return [(at + 1, boxes | (1 << row[1])), (row[-1], boxes)]
    return [(at + 1, boxes), (row[-1], boxes)]


def asks_unset(row, boxes):
    """Whether a row goes by a box that isn't one of these."""
    return row[0] in ("ask", "skip") and (boxes >> row[1]) & 1 == 0


def first_unset(rows):
    """The number of the first row that asks a box that on some way to it wasn't set; None where none does."""
    # All ways lead to rows behind, so those to a row are all known when it is come to.
    known = {0: 0}
    for at, row in enumerate(rows):
        if at in known:
            if asks_unset(row, known[at]):
                return at
            ways = ways_from(at, row, known[at])
            for to, boxes in ways:
                known[to] = boxes & known.get(to, boxes)
    return None


def is_rows(thing):
    """Whether these are rows of the machine."""
    return is_tuple_of(thing, 1, MOST_ROWS) and first_no_row(thing) is None and first_unset(thing) is None


class Machine:
    """The bytes that rows run on, the boxes, the place, and how far was seen."""

    def __init__(self, some):
        self.some = some
        self.boxes = [0 for _ in range(BOXES)]
        self.place = 0
        self.seen = 0


def put_in_box(machine, box, worth, end):
    """Puts into a box what was seen in the bytes up to this end."""
    machine.boxes[box] = worth
    machine.seen = max(machine.seen, end)


def do_take(machine, row):
    """Takes a number into a box."""
    _, box, more, size, order, _ = row
    begin = machine.place + more
    end = begin + size
    if end > len(machine.some):
        return True
    put_in_box(machine, box, number_in(machine.some[begin:end], order=order), end)
    return False


def do_part(machine, row):
    """Takes some bits of one byte into a box."""
    _, box, more, shift, width, _ = row
    at = machine.place + more
    if at >= len(machine.some):
        return True
    put_in_box(machine, box, (machine.some[at] >> shift) & ((1 << width) - 1), at + 1)
    return False


def go_on(machine, more):
    """Moves the place on, not backward and not beyond the bytes' end; tells whether it stays instead."""
    if more < 0 or machine.place + more > len(machine.some):
        return True
    machine.place += more
    return False


def do_move(machine, row):
    """Moves the place on."""
    return go_on(machine, row[1])


def do_skip(machine, row):
    """Moves the place on by what is in a box."""
    _, box, times, more, _ = row
    return go_on(machine, times * machine.boxes[box] + more)


def do_ask(machine, row):
    """Asks a box."""
    _, box, word, worth, _ = row
    return is_so(machine.boxes[box], word, worth)


def do_go(_machine, _row):
    """Goes on elsewhere."""
    return True


def do_back(machine, _row):
    """Goes back to the first byte."""
    machine.place = 0
    return False


# Each does a row and tells whether it goes to the row that is told there last, instead of the next one.
DEEDS = {
    "take": do_take,
    "part": do_part,
    "move": do_move,
    "skip": do_skip,
    "ask": do_ask,
    "go": do_go,
    "back": do_back,
}


def run(rows, some):
    """What rows tell of bytes, and how far they saw: (truth, seen)."""
    machine = Machine(some)
    at = 0
    while rows[at][0] != "end":
        row = rows[at]
        deed = DEEDS[row[0]]
        if deed(machine, row):
            at = row[-1]
        else:
            at += 1
    return rows[at][1], machine.seen
