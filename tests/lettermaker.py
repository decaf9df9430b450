"""Grammars and good letters made at random, and a count of sums that is not the program's own."""

from letterbench.errors import NoGrammar
from letterbench.grammars import look_at_grammar


class Again(Exception):
    """This draw leads nowhere; the next one may."""


def own_sum(rule, some):
    """The bytes of a sum, counted in another way than the program does."""
    if rule == "plain":
        worth = 0
        for byte in some:
            worth = (worth + byte) & 255
        return (worth,)
    if rule == "placed":
        worth = 0
        for place in range(len(some)):
            worth += (place + 1) * some[place]
        worth -= worth // 65521 * 65521
    else:
        worth = 5381 * 33 ** len(some)
        for place in range(len(some)):
            worth += some[place] * 33 ** (len(some) - 1 - place)
        worth &= 65535
    return (worth // 256, worth & 255)


def draw_field(chance, name, tags, kinds):
    """One field; kinds are the names of those that it may name."""
    words = ["number", "number", "bits", "bytes", "text", "sum"]
    words += ["choice", "row", "carried", "carried"] if kinds else []
    word = chance.choice(words)
    if word == "number":
        size = chance.choice((1, 1, 2, 3, 4))
        least = chance.choice((0, 0, 1, 3))
        most = chance.choice((least, least + 4, 256 ** size - 1))
        return ("number", name, size, chance.choice(("big", "small")), least, most)
    if word == "bits":
        split = chance.randint(1, 7)
        return ("bits", ((name, split), (name + "x", 8 - split)))
    if word == "text":
        return ("text", name, chance.choice((0, 1, 255)))
    if word == "sum":
        return ("sum", name, chance.choice(("plain", "placed", "mixed")))
    lengths = [("is", chance.randint(0, 9)), ("rest",)]
    lengths += [("of", chance.choice(tags), chance.randint(1, 3), chance.randint(-3, 5))] * 2 if tags else []
    if word == "bytes":
        return ("bytes", name, chance.choice(lengths))
    if word == "carried":
        return ("carried", name, chance.choice(lengths), chance.choice(kinds))
    if word == "row":
        many = ("of", chance.choice(tags)) if tags and chance.random() < 0.6 else ("rest",)
        return ("row", name, chance.choice(kinds), many)
    if not tags:
        raise Again
    worths = chance.sample(range(6), chance.randint(1, 5))
    return ("choice", name, chance.choice(tags), tuple((worth, chance.choice(kinds)) for worth in worths))


def draw_kind(chance, name, kinds):
    tags = []
    fields = []
    for place in range(chance.randint(1, 5)):
        field = draw_field(chance, "abcdefgh"[place], tags, kinds)
        if field[0] == "number":
            tags.append(field[1])
        if field[0] == "bits":
            tags += [part for part, _ in field[1]]
        fields.append(field)
    if chance.random() < 0.3:
        fields.append(("sum", "s", chance.choice(("plain", "placed", "mixed"))))
    return (name, tuple(fields))


def draw_grammar(chance):
    """A grammar of one to five kinds."""
    while True:
        grammar = ()
        try:
            for name in ("ka", "kb", "kc", "kd", "ke")[:chance.randint(1, 5)]:
                grammar = (draw_kind(chance, name, [kind for kind, _ in grammar]),) + grammar
            look_at_grammar(grammar)
        except (Again, NoGrammar):
            continue
        return grammar


def in_bytes(number, size, order):
    lowest_first = []
    for _ in range(size):
        lowest_first.append(number % 256)
        number //= 256
    return tuple(lowest_first if order == "small" else lowest_first[::-1])


def draw_bytes(chance, many):
    return tuple(chance.randrange(256) for _ in range(many))


def draw_many(chance, length, fields):
    """A length that the fields ahead tell, or None where it is the maker's own."""
    if length[0] == "is":
        return length[1]
    if length[0] == "of":
        many = fields[length[1]] * length[2] + length[3]
        if not 0 <= many <= 300:
            raise Again
        return many
    return None


def draw_choice(chance, field, table, fields):
    kinds = dict(field[3])
    if fields[field[2]] not in kinds:
        raise Again
    kind = kinds[fields[field[2]]]
    some, inner = draw_thing(chance, table, kind)
    return some, (kind, inner)


def draw_row(chance, field, table, fields):
    many = chance.randint(0, 3) if field[3] == ("rest",) else fields[field[3][1]]
    if many > 20:
        raise Again
    things = [draw_thing(chance, table, field[2]) for _ in range(many)]
    return sum([some for some, _ in things], ()), [inner for _, inner in things]


def draw_carried(chance, field, table, fields):
    many = draw_many(chance, field[2], fields)
    some, inner = draw_thing(chance, table, field[3])
    if many is not None and many != len(some):
        raise Again
    return some, (field[3], inner)


def draw_worth(chance, field, table, fields, ahead):
    """The bytes of a field, and its worth."""
    word = field[0]
    if word == "number":
        worth = chance.randint(field[4], min(field[5], field[4] + chance.choice((0, 3, 9, 10 ** 9))))
        return in_bytes(worth, field[2], field[3]), worth
    if word == "bytes":
        many = draw_many(chance, field[2], fields)
        worth = draw_bytes(chance, chance.randint(0, 5) if many is None else many)
        return worth, worth
    if word == "text":
        worth = tuple(byte for byte in draw_bytes(chance, chance.randint(0, 4)) if byte != field[2])
        return worth + (field[2],), worth
    if word == "sum":
        some = own_sum(field[2], ahead)
        return some, int.from_bytes(bytes(some), "big")
    draw = {"choice": draw_choice, "row": draw_row, "carried": draw_carried}[word]
    return draw(chance, field, table, fields)


def draw_thing(chance, table, kind):
    """The bytes and the fields of a thing of this kind, without anything unknown in it."""
    some = ()
    fields = {}
    for field in table[kind]:
        if field[0] == "bits":
            byte = chance.randrange(256)
            below = 8
            for name, width in field[1]:
                below -= width
                fields[name] = byte // 2 ** below % 2 ** width
            some += (byte,)
        else:
            piece, fields[field[1]] = draw_worth(chance, field, table, fields, some)
            some += piece
    return some, fields


def draw_letter(chance, grammar):
    """A good letter and its fields; None where none was met with in some draws."""
    for _ in range(60):
        try:
            return draw_thing(chance, dict(grammar), grammar[0][0])
        except Again:
            continue
    return None
