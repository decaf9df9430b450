"""A setting made by hand, letters of it, lots drawn at random, and a slow way to their sheet."""

from letterbench.reading import fields_in, is_good, spreads_of
from letterbench.streams import together
from letterbench.talks import sureness
from letterbench.upper import pieces_of, upper_of

# A letter is a segment of a side's stream, a note, or of no known sort.
LOWER = (
    ("top", (("number", "sort", 1, "big", 0, 9), ("choice", "way", "sort", ((1, "seg"), (2, "note"))))),
    ("seg", (
        ("number", "off", 2, "big", 0, 500),
        ("bits", (("fin", 1), ("spare", 7))),
        ("number", "len", 1, "big", 0, 60),
        ("bytes", "body", ("of", "len", 1, 0)),
        ("sum", "check", "plain"),
    )),
    ("note", (("text", "line", 0),)),
)
CARRYING = (("way",), "off", "body", "fin")
UPPER = (
    ("msg", (("number", "tag", 1, "big", 0, 9), ("choice", "act", "tag", ((1, "ask"), (2, "yes"), (3, "no"), (4, "thanks"), (5, "wrap"), (6, "deep"))))),
    ("ask", (("number", "id", 1, "big", 0, 255),)),
    ("yes", (("number", "id", 1, "big", 0, 255), ("bytes", "key", ("is", 2)))),
    ("no", (("number", "why", 1, "big", 0, 9),)),
    ("thanks", (("bytes", "bare", ("is", 0)),)),
    ("wrap", (("number", "len", 1, "big", 0, 9), ("carried", "room", ("of", "len", 1, 0), "deep"))),
    ("deep", (("number", "kind", 1, "big", 0, 255), ("choice", "core", "kind", ((0, "no"), (7, "no"), (8, "thanks"))))),
)
ASKER = (("idle", "asked", "glad"), (("idle", "says", "ask", "asked"), ("asked", "hears", "no", "idle"), ("asked", "hears", "yes", "glad"),
                                     ("glad", "says", "thanks", "idle")))
TELLER = (("free", "busy", "done"), (("free", "hears", "ask", "busy"), ("busy", "says", "no", "free"), ("busy", "says", "yes", "done"),
                                     ("done", "hears", "thanks", "free")))


def setting(**otherwise):
    """The setting, with some of its parts otherwise."""
    told = {"lower": LOWER, "carrying": CARRYING, "rule": "first", "upper": UPPER, "sort": ("act",), "ends": (ASKER, TELLER)}
    told.update(otherwise)
    return told


def segment(place, body, *, fin=0, wrong=0):
    """A letter that carries these bytes, its sum so much wrong."""
    inner = (place >> 8, place & 255, fin << 7, len(body)) + tuple(body)
    return (1,) + inner + ((sum(inner) + wrong) % 256,)


def cut_in(chance, some):
    """These bytes in pieces, (place, bytes) each."""
    pieces = []
    at = 0
    while at < len(some):
        many = chance.randint(1, 6)
        pieces.append((at, some[at:at + many]))
        at += many
    return pieces


def draw_upper(chance, side):
    """The bytes of an upper letter that this side may say, now and then of another one."""
    letters = [(1, 9), (4,)] if side == 0 else [(2, 9, 8, 7), (3, 5)]
    letters += [(5, 3, 7, 4, 9), (6, 8), (5, 1, 3)] if chance.random() < 0.1 else []
    return chance.choice(letters)


def draw_lot(chance):
    """Catches of two streams: pieces lost, doubled, turned in their order, bent, and letters beside."""
    lot = []
    for side in (0, 1):
        some = sum([draw_upper(chance, side) for _ in range(chance.randint(0, 6))], ())
        for place, body in cut_in(chance, some):
            for _ in range(chance.choice((0, 1, 1, 1, 1, 2))):
                bent = tuple((byte + 1) % 256 if chance.random() < 0.03 else byte for byte in body)
                fin = place + len(body) == len(some) and chance.random() < 0.5
                letter = segment(place, bent, fin=int(fin), wrong=int(chance.random() < 0.1))
                lot.append((chance.choice((0, 0, 0, 1)), side, letter))
        if chance.random() < 0.5:
            lot.append((chance.randint(0, 1), side, chance.choice(((), (2, 65, 0), (2, 65), (9, 1, 2), segment(3, ()), segment(450, (1,) * 9), segment(2, (5, 5), fin=1)))))
    if chance.random() < 0.7:
        chance.shuffle(lot)
    return lot


def slow_sides(told, lot):
    """By sides the stream as it stands, byte by byte: {place: (letter, begin of its body, place of its piece)}."""
    pieces = pieces_of(told["lower"], told["carrying"], [some for _, _, some in lot])
    sides = []
    for side in (0, 1):
        ordered = sorted([piece for piece in pieces if lot[piece[0]][1] == side], key=lambda piece: lot[piece[0]][0])
        stream = {}
        for letter, begin, (place, some, _) in ordered:
            for at in range(place, place + len(some)):
                if told["rule"] == "later" or at not in stream:
                    stream[at] = letter
        sides.append((ordered, stream))
    return sides


def slow_sort(told, some):
    """The sort of an upper letter, by its fields."""
    if not is_good(spreads_of(told["upper"], some)):
        return "none"
    worths = fields_in(told["upper"], some)
    kind = told["upper"][0][0]
    words = []
    for name in told["sort"]:
        found = [field[0] for field in dict(told["upper"])[kind] if field[0] != "bits" and field[1] == name]
        if not found or found[0] not in ("choice", "carried") or name not in worths:
            return "none"
        kind, worths = worths[name]
        words.append(found[0])
    return kind if words[-1] == "choice" else "none"


def slow_caught(told, sides):
    """The upper letters of both sides; and the first sixty as they were caught: (letter, side, begin, number, sort)."""
    uppers = []
    caught = []
    for side, (ordered, stream) in enumerate(sides):
        whole = together([piece for _, _, piece in ordered], rule=told["rule"])
        letters, _ = upper_of(told["upper"], whole["runs"], end=whole["end"])
        uppers.append(letters)
        for number, (begin, end, _) in enumerate(letters):
            some = dict(whole["runs"])[0][begin:end]
            caught.append((max(stream[place] for place in range(end)), side, begin, number, slow_sort(told, some)))
    return uppers, sorted(caught)[:60]


def slow_sheet(told, lot):
    """The sheet of a lot, byte by byte and then put together again."""
    sides = slow_sides(told, lot)
    uppers, caught = slow_caught(told, sides)
    words = sureness(told["ends"], [(side, sort) for _, side, _, _, sort in caught])
    steps = {(side, number): (at, words[at]) for at, (_, side, _, number, _) in enumerate(caught)}
    rows = []
    for letter, (_, side, some) in enumerate(lot):
        ordered, stream = sides[side]
        own = [(begin, piece) for number, begin, piece in ordered if number == letter]
        for begin, end, path, what, worth in spreads_of(told["lower"], some):
            if not own or path != told["carrying"][0] + (told["carrying"][2],) or begin == end:
                rows.append((letter, begin, end, path, what, worth, None, None, None))
                continue
            ahead = None
            for at in range(begin, end):
                place = own[0][1][0] + at - begin
                mark = ("again", None, None)
                if stream[place] == letter:
                    mark = ("stands", None, None)
                    for number, (start, behind, spreads) in enumerate(uppers[side]):
                        for which, spread in enumerate(spreads):
                            if start + spread[0] <= place < start + spread[1]:
                                mark = ("stands", (number, which), (number, spread[2], spread[3]))
                step = mark[1] and steps.get((side, mark[1][0]))
                if mark == ahead:
                    row = rows.pop()
                    rows.append(row[:2] + (at + 1,) + row[3:5] + (row[5] + (some[at],),) + row[6:])
                else:
                    rows.append((letter, at, at + 1, path, "bytes", (some[at],), (place, mark[0]), mark[2], step))
                ahead = mark
    return rows
