"""Sheets judged, whoever wrote them, and what is told by a sheet and its lot."""

from letterbench.errors import NoPath
from letterbench.forms import is_tuple_of
from letterbench.numbers import is_whole
from letterbench.sheet import sheet_of

MANY_IN_ROW = 9


def is_sheet_row(thing):
    """Whether this is by its form a row of a sheet."""
    return is_tuple_of(thing, MANY_IN_ROW, MANY_IN_ROW) and is_whole(thing[0]) and is_whole(thing[1])


def is_same(thing, own):
    """Whether a thing is just what is told, whole numbers, texts, None and tuples of these; True is no 1 in it."""
    if isinstance(own, tuple):
        if not is_tuple_of(thing, len(own), len(own)):
            return False
        return all([is_same(inner, own_inner) for inner, own_inner in zip(thing, own)])
    if own is None:
        return thing is None
    if isinstance(own, str):
        return isinstance(thing, str) and thing == own
    return is_whole(thing) and thing == own


def first_bent(thing, sheet):
    """The letter and begin at which rows are first not those of a sheet; None where all are."""
    for row, own in zip(thing, sheet):
        if not is_same(row, own):
            return min(row[:2], own[:2])
    if len(thing) == len(sheet):
        return None
    if len(thing) > len(sheet):
        return thing[len(sheet)][:2]
    return sheet[len(thing)][:2]


def judged(setting, lot, thing):
    """What is told of anything as the sheet of a lot: that it is so, that it is none, or where it is bent."""
    sheet = sheet_of(setting, lot)
    if not isinstance(thing, list) or not all([is_sheet_row(row) for row in thing]):
        return ("none",)
    bent = first_bent(thing, sheet)
    if bent is None:
        return ("sheet",)
    return ("bent",) + bent


def is_sheet(setting, lot, thing):
    """Whether this is the sheet of a lot."""
    return judged(setting, lot, thing) == ("sheet",)


def row_at(sheet, letter, byte):
    """The row in which a byte of a letter lies."""
    if is_whole(letter) and is_whole(byte):
        for row in sheet:
            if row[0] == letter and row[1] <= byte < row[2]:
                return row
    raise NoPath((letter, byte))


def begins_with(path, beginning):
    """Whether a path begins with these steps."""
    return is_same(beginning, path[:len(beginning)])


def bytes_at(sheet, lot, side, number, path):
    """The caught bytes that stand of what lies at a path of a side's upper letter: (letter, byte), by their places."""
    found = []
    for letter, begin, end, _, _, _, stream, upper, _ in sheet:
        if upper is not None and is_same((side, number), (lot[letter][1], upper[0])) and begins_with(upper[1], path):
            found.extend([(stream[0] + byte - begin, letter, byte) for byte in range(begin, end)])
    return [(letter, byte) for _, letter, byte in sorted(found)]


def upper_at_step(sheet, lot, step):
    """The side and the number of the upper letter that a step is."""
    if is_whole(step):
        for row in sheet:
            if row[8] is not None and row[8][0] == step:
                return lot[row[0]][1], row[7][0]
    raise NoPath(step)
