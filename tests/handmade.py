"""A grammar made by hand, with each sort of field in it, and letters of it with what they are read as."""

from lettermaker import own_sum

POST = (
    ("post", (
        ("bits", (("ver", 2), ("sort", 3), ("flags", 3))),
        ("number", "len", 2, "big", 0, 20),
        ("choice", "body", "sort", ((0, "ping"), (1, "data"), (5, "ping"))),
        ("carried", "outer", ("of", "len", 2, 1), "shell"),
        ("bytes", "tail", ("rest",)),
        ("sum", "check", "placed"),
    )),
    ("ping", (("number", "id", 2, "small", 1, 1000), ("bytes", "pad", ("is", 2)))),
    ("data", (("number", "many", 1, "big", 0, 3), ("row", "list", "pair", ("of", "many")), ("text", "note", 10))),
    ("pair", (("number", "key", 1, "big", 3, 10), ("bytes", "val", ("of", "key", 1, -3)))),
    ("shell", (("number", "size", 1, "big", 0, 40), ("carried", "core", ("of", "size", 1, 0), "core"),
               ("sum", "own", "mixed"))),
    ("core", (("bytes", "raw", ("rest",)), ("sum", "plain", "plain"))),
)


def summed(rule, some):
    """These bytes and their sum."""
    return some + own_sum(rule, some)


def number_of(some):
    return int.from_bytes(bytes(some), "big")


# The letter: ver 2, sort 1, flags 5; a room of 7 bytes; two pairs and a note; a room in a room; three bytes; the sum.
CORE = summed("plain", (50, 60, 70))
SHELL = summed("mixed", (4,) + CORE)
DATA = (2, 4, 99, 3, 104, 105, 10)
LETTER = summed("placed", (0b10001101, 0, 3) + DATA + SHELL + (7, 8, 9))

SPREADS = [
    (0, 1, ("ver",), "bits", (2, 1, 5)),
    (1, 3, ("len",), "number", 3),
    (3, 4, ("body", "many"), "number", 2),
    (4, 5, ("body", "list", 0, "key"), "number", 4),
    (5, 6, ("body", "list", 0, "val"), "bytes", (99,)),
    (6, 7, ("body", "list", 1, "key"), "number", 3),
    (7, 7, ("body", "list", 1, "val"), "bytes", ()),
    (7, 10, ("body", "note"), "text", (104, 105)),
    (10, 11, ("outer", "size"), "number", 4),
    (11, 14, ("outer", "core", "raw"), "bytes", (50, 60, 70)),
    (14, 15, ("outer", "core", "plain"), "sum", 180),
    (15, 17, ("outer", "own"), "sum", number_of(SHELL[-2:])),
    (17, 20, ("tail",), "bytes", (7, 8, 9)),
    (20, 22, ("check",), "sum", number_of(LETTER[-2:])),
]


def fields():
    """The letter's fields, new each time."""
    return {
        "ver": 2, "sort": 1, "flags": 5,
        "len": 3,
        "body": ("data", {"many": 2, "list": [{"key": 4, "val": (99,)}, {"key": 3, "val": ()}], "note": (104, 105)}),
        "outer": ("shell", {
            "size": 4,
            "core": ("core", {"raw": (50, 60, 70), "plain": 180}),
            "own": number_of(SHELL[-2:]),
        }),
        "tail": (7, 8, 9),
        "check": number_of(LETTER[-2:]),
    }


def post(body, *, ver=2, sort=1, flags=5, core=(50, 60, 70), tail=(7, 8, 9)):
    """A letter with this body, the sums and lengths being made anew."""
    inner = summed("plain", core)
    shell = summed("mixed", (len(inner),) + inner)
    length = (len(shell) - 1) // 2
    return summed("placed", (ver << 6 | sort << 3 | flags, 0, length) + body + shell + tail)
