"""Rows of the machine compared: a tree by which two are alike, or bytes that part them.

Both are run on all bytes at once. Where a row may go two ways, the bytes are parted by a knot, a tree's beginning
without what is told on its two sides.
"""

from letterbench.bounded import end_of, ends_of, worths_at
from letterbench.compiling import rows_for
from letterbench.errors import NoRows
from letterbench.filters import look_at_filter
from letterbench.forms import is_tuple_of
from letterbench.numbers import is_so
from letterbench.rows import MOST_ROWS, first_no_row, first_unset
from letterbench.trees import course_of, course_within, sides_of, truths_on


def knot_by_digits(bounds, places, limit):
    """Parts numbers so that more of them are known to be below a limit, at it or beyond it."""
    digits = limit
    knot = None
    for place in places[::-1]:
        low, high = worths_at(bounds, place)
        digit = digits & 255
        digits = digits >> 8
        if low < high:
            knot = ("byte", place, digit if low < digit else digit + 1)
    return knot


def knot_by_halves(bounds, places):
    """Parts numbers in the middle of their highest byte that isn't known."""
    knot = None
    for place in places[::-1]:
        low, high = worths_at(bounds, place)
        if low < high:
            knot = ("byte", place, (low + high + 1) // 2)
    return knot


def knot_by_turns(place, low, told):
    """Parts bytes, of which from the lowest one on this is told, at the middle one of those where it turns."""
    turns = [at for at in range(1, len(told)) if told[at] != told[at - 1]]
    return ("byte", place, low + turns[len(turns) // 2])


def parts_of(bounds, box):
    """The bits in a box of bits, for each worth of its byte from the lowest one on."""
    places, shift, width = box
    low, high = worths_at(bounds, places[0])
    return [(worth >> shift) & ((1 << width) - 1) for worth in range(low, high + 1)]


def knot_of_ask(bounds, box, word, worth):
    """Parts bytes so that more is known of what a row asks."""
    places, _, width = box
    if width == 0:
        return knot_by_digits(bounds, places, worth + 1 if word == "more" else worth)
    low, _ = worths_at(bounds, places[0])
    return knot_by_turns(places[0], low, [is_so(part, word, worth) for part in parts_of(bounds, box)])


def knot_of_skip(bounds, box, first, last):
    """Parts bytes so that more is known of a skip that from a first worth of its box to a last one is within them."""
    places, _, width = box
    if width != 0:
        low, _ = worths_at(bounds, places[0])
        return knot_by_turns(places[0], low, [max(first - 1, min(last + 1, part)) for part in parts_of(bounds, box)])
    least, most = ends_of(bounds, box)
    for limit in (first, last + 1):
        if least < limit <= most:
            return knot_by_digits(bounds, places, limit)
    return knot_by_halves(bounds, places)


def knot_at(walk, bounds):
    """Parts bytes so that more is known of the row at which a walk stopped."""
    row = walk.rows[walk.at]
    if row[0] == "ask":
        return knot_of_ask(bounds, walk.boxes[row[1]], row[2], row[3])
    if row[0] != "skip":
        return ("length", end_of(walk, row))
    _, number, times, more, _ = row
    box = walk.boxes[number]
    least, most = ends_of(bounds, box)
    if least == most:
        return ("length", walk.place + times * least + more)
    return knot_of_skip(bounds, box, -(more // times), (bounds.most - walk.place - more) // times)


def bytes_within(bounds):
    """The shortest bytes within bounds, each of the least worth."""
    return tuple([worths_at(bounds, place)[0] for place in range(bounds.least)])


def beside(one, other):
    """What is told of two rows: that they are alike and by which tree, or bytes that part them."""
    # Trees may be deeper than calls may be: a knot without a course joins the last two trees that were told.
    waiting = [(course_of(one, other), None)]
    trees = []
    while waiting:
        course, knot = waiting.pop()
        if course is None:
            more = trees.pop()
            trees[-1] = knot + (trees[-1], more)
            continue
        truths = truths_on(course)
        if truths is None:
            knot = knot_at(course.walk, course.bounds)
            less, more = sides_of(course.bounds, knot)
            waiting.append((None, knot))
            waiting.append((course_within(course, more), None))
            waiting.append((course_within(course, less), None))
        elif truths[0] != truths[1]:
            return ("parted", bytes_within(course.bounds))
        else:
            trees.append(("told", truths[0]))
    return ("alike", trees[0])


def look_at_machine(thing):
    """Refuses what are no rows of the machine."""
    if not is_tuple_of(thing, 1, MOST_ROWS):
        raise NoRows(None)
    number = first_no_row(thing)
    if number is None:
        number = first_unset(thing)
    if number is not None:
        raise NoRows(number)


def look_at_rows(grammar, wish, thing):
    """What is told of a filter and rows."""
    look_at_filter(grammar, wish)
    look_at_machine(thing)
    return beside(rows_for(grammar, wish), thing)


def compared(grammar, one, other):
    """What is told of two filters."""
    look_at_filter(grammar, one)
    look_at_filter(grammar, other)
    return beside(rows_for(grammar, one), rows_for(grammar, other))
