"""Sheets: from each byte of caught letters to all that is told of it."""

from letterbench.accounts import Account
from letterbench.ends import is_end
from letterbench.errors import NoLetter, NoSetting
from letterbench.forms import is_tuple_of
from letterbench.grammars import is_grammar
from letterbench.numbers import is_between, is_bytes, is_word
from letterbench.reading import spreads_of
from letterbench.streams import RULES
from letterbench.upper import is_carrying

PARTS = ("lower", "carrying", "rule", "upper", "sort", "ends")


def is_part_so(setting, part):
    """Whether a part of a setting is as it must be, where those ahead of it are."""
    thing = setting[part]
    if part in ("lower", "upper"):
        return is_grammar(thing)
    if part == "carrying":
        return is_carrying(setting["lower"], thing)
    if part == "rule":
        return thing in RULES
    if part == "sort":
        return isinstance(thing, tuple) and len(thing) > 0 and all([is_word(name) for name in thing])
    return is_tuple_of(thing, 2, 2) and is_end(thing[0]) and is_end(thing[1])


def look_at_setting(thing):
    """Tells nothing of a setting; whatever else is handed in is refused."""
    if not isinstance(thing, dict) or len(thing) != len(PARTS) or not all([part in thing for part in PARTS]):
        raise NoSetting(None)
    for part in PARTS:
        if not is_part_so(thing, part):
            raise NoSetting(part)


def is_catch(thing):
    """Whether this is a letter that was caught: at which tap, which side sent it, and its bytes."""
    return is_tuple_of(thing, 3, 3) and is_between(thing[0], 0, 1) and is_between(thing[1], 0, 1) and is_bytes(thing[2])


def look_at_lot(thing):
    """Tells nothing of a lot; whatever else is handed in is refused."""
    if not isinstance(thing, list):
        raise NoLetter(None)
    for number, catch in enumerate(thing):
        if not is_catch(catch):
            raise NoLetter(number)


class Body:
    """Where in a letter a piece is, which side sent it, and which of this side's pieces it is."""

    def __init__(self, side, number, begin, piece):
        self.side = side
        self.number = number
        self.begin = begin
        self.piece = piece


def bodies_of(account):
    """The pieces with bytes, by the numbers of their letters."""
    bodies = {}
    for side, sender in enumerate(account.senders):
        for number, (letter, begin, piece) in enumerate(sender.carried):
            if piece[1]:
                bodies[letter] = Body(side, number, begin, piece)
    return bodies


def mark_of(sender, body, place):
    """Whether a piece's byte at a place stands, and of one that does the upper letter and the spread that lie there."""
    if sender.standing[place] != body.number:
        return "again", None
    return "stands", sender.spots.get(place)


def parts_of(sender, body):
    """A piece's bytes parted wherever their marks turn: tuples (begin, end, mark), by places of the stream."""
    parts = []
    place, some, _ = body.piece
    for at in range(place, place + len(some)):
        mark = mark_of(sender, body, at)
        if parts and parts[-1][2] == mark:
            parts[-1] = (parts[-1][0], at + 1, mark)
        else:
            parts.append((at, at + 1, mark))
    return parts


def layers_told(account, body, mark):
    """What a row tells of the upper letter and the step of bytes with a mark."""
    _, spot = mark
    if spot is None:
        return None, None
    number, at = spot
    _, _, path, what, _ = account.senders[body.side].uppers[number][2][at]
    return (number, path, what), account.steps.get((body.side, number))


def rows_of_body(account, letter, body, path):
    """The rows of a letter's carried bytes."""
    place, some, _ = body.piece
    rows = []
    for begin, end, mark in parts_of(account.senders[body.side], body):
        upper, step = layers_told(account, body, mark)
        own = some[begin - place:end - place]
        behind = body.begin + begin - place
        rows.append((letter, behind, behind + len(own), path, "bytes", own, (begin, mark[0]), upper, step))
    return rows


def sheet_of(setting, lot):
    """The rows of all caught letters: (letter, begin, end, path, what, worth, stream, upper, step) each."""
    look_at_setting(setting)
    look_at_lot(lot)
    account = Account(setting, lot)
    bodies = bodies_of(account)
    way, _, name, _ = setting["carrying"]
    rows = []
    for letter, (_, _, some) in enumerate(lot):
        for spread in spreads_of(setting["lower"], some):
            if letter in bodies and spread[2:4] == (way + (name,), "bytes"):
                rows.extend(rows_of_body(account, letter, bodies[letter], spread[2]))
            else:
                rows.append((letter,) + spread + (None, None, None))
    return rows
