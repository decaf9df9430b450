"""Rows of the machine run on all bytes at once that are within bounds, as far as they go one way on all of these.

What is in a box is told by where it is from: (places, shift, width), of a number the places of its bytes, the highest
one first, and width 0; of bits the one place of their byte. A truth is None where it is so of some of these bytes only.
"""

from letterbench.numbers import number_in

WHOLE = (0, 255)


class Bounds:
    """The least and the most length of bytes, and by places the least and the most worth of those that are bounded."""

    def __init__(self, least, most, worths):
        self.least = least
        self.most = most
        self.worths = worths


class Walk:
    """How far rows were run on bytes within bounds."""

    def __init__(self, rows):
        self.rows = rows
        self.at = 0
        self.place = 0
        self.boxes = {}


def twin_of(walk):
    """A walk that goes on by itself from where this one is."""
    twin = Walk(walk.rows)
    twin.at = walk.at
    twin.place = walk.place
    twin.boxes = dict(walk.boxes)
    return twin


def worths_at(bounds, place):
    """The least and the most worth of the byte at a place."""
    return bounds.worths.get(place, WHOLE)


def ends_of(bounds, box):
    """The least and the most worth that a box may have."""
    places, shift, width = box
    if width == 0:
        worths = [worths_at(bounds, place) for place in places]
        return number_in([low for low, _ in worths]), number_in([high for _, high in worths])
    low, high = worths_at(bounds, places[0])
    mask = (1 << width) - 1
    # Where the bits above these turn, these were all set ahead and none is behind.
    if low >> (shift + width) != high >> (shift + width):
        return 0, mask
    return (low >> shift) & mask, (high >> shift) & mask


def may_be(bounds, box, worth):
    """Whether a box may have a worth that lies between its ends."""
    places, shift, width = box
    if width == 0:
        rest = worth
        for place in places[::-1]:
            low, high = worths_at(bounds, place)
            if not low <= rest & 255 <= high:
                return False
            rest = rest >> 8
        return True
    low, high = worths_at(bounds, places[0])
    low = low >> shift
    next_one = low + ((worth - low) & ((1 << width) - 1))
    return next_one <= high >> shift


def is_asked(bounds, box, word, worth):
    """Whether a box is same as, less or more than a worth."""
    least, most = ends_of(bounds, box)
    if word == "same":
        if least == most:
            return least == worth
        if least <= worth <= most and may_be(bounds, box, worth):
            return None
        return False
    if word == "less":
        if most < worth:
            return True
        return None if least < worth else False
    if least > worth:
        return True
    return None if most > worth else False


def is_within(bounds, end):
    """Whether this end of some bytes is within all bytes."""
    if end <= bounds.least:
        return True
    return None if end <= bounds.most else False


def is_skipped(bounds, place, row, box):
    """Whether a skip by a box stays within the bytes, which can't be told while the box has several worths."""
    _, _, times, more, _ = row
    least, most = ends_of(bounds, box)
    if times * most + more < 0 or place + times * least + more > bounds.most:
        return False
    if least == most:
        return is_within(bounds, place + times * least + more)
    return None


def end_of(walk, row):
    """The end of the bytes that a row takes or moves over."""
    if row[0] == "take":
        return walk.place + row[2] + row[3]
    if row[0] == "part":
        return walk.place + row[2] + 1
    return walk.place + row[1]


def goes_on(walk, bounds, row):
    """Whether a row goes on to the next one, not elsewhere."""
    word = row[0]
    if word in ("take", "part", "move"):
        return is_within(bounds, end_of(walk, row))
    if word == "skip":
        return is_skipped(bounds, walk.place, row, walk.boxes[row[1]])
    if word == "ask":
        truth = is_asked(bounds, walk.boxes[row[1]], row[2], row[3])
        return None if truth is None else not truth
    return word == "back"


def do_row(walk, bounds, row):
    """Does what a row does that goes on."""
    word = row[0]
    if word == "take":
        places = tuple(range(walk.place + row[2], end_of(walk, row)))
        walk.boxes[row[1]] = (places if row[4] == "big" else places[::-1], 0, 0)
    elif word == "part":
        walk.boxes[row[1]] = ((walk.place + row[2],), row[3], row[4])
    elif word == "move":
        walk.place = end_of(walk, row)
    elif word == "skip":
        least, _ = ends_of(bounds, walk.boxes[row[1]])
        walk.place += row[2] * least + row[3]
    elif word == "back":
        walk.place = 0
    walk.at += 1


def truth_by(walk, bounds):
    """What the rows of a walk tell of all bytes within bounds; None where it stops at a row that may go two ways."""
    row = walk.rows[walk.at]
    while row[0] != "end":
        on = goes_on(walk, bounds, row)
        if on is None:
            return None
        if on:
            do_row(walk, bounds, row)
        else:
            walk.at = row[-1]
        row = walk.rows[walk.at]
    return row[1]
