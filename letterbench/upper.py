"""Upper letters: pieces of a stream that letters carry, and the letters that lie one behind the other in it."""

from letterbench.errors import NoSetting
from letterbench.forms import is_tuple_of
from letterbench.grammars import field_called, look_at_grammar, named_kinds, table_of
from letterbench.numbers import is_word
from letterbench.reading import read_letter, spreads_of
from letterbench.streams import is_piece

MOST_NAMES = 3
LEADING = ("choice", "carried")


def is_sort(table, kind, name, words):
    """Whether a kind has a field of these sorts that has this name, itself or as a part."""
    field = field_called(table, kind, name)
    return field is not None and field[0] in words


def has_three(table, kind, place, body, last):
    """Whether a kind has what tells a piece: its place, its body and whether it is the last."""
    if not is_sort(table, kind, place, ("number",)) or not is_sort(table, kind, body, ("bytes",)):
        return False
    return last is None or is_sort(table, kind, last, ("number", "bits"))


def kinds_led_to(grammar, path):
    """The kinds that a path of choices and carried fields leads to by some way."""
    table = table_of(grammar)
    kinds = {grammar[0][0]: True}
    for name in path:
        behind = {}
        for kind in list(kinds):
            if is_sort(table, kind, name, LEADING):
                for inner in named_kinds(field_called(table, kind, name)):
                    behind[inner] = True
        kinds = behind
    return list(kinds)


def is_carrying(grammar, thing):
    """Whether this tells where the letters of a grammar carry pieces."""
    look_at_grammar(grammar)
    if not is_tuple_of(thing, 4, 4) or not is_tuple_of(thing[0], 0, MOST_NAMES):
        return False
    path, place, body, last = thing
    if not all([is_word(name) for name in path + (place, body)]):
        return False
    if last is not None and not is_word(last):
        return False
    table = table_of(grammar)
    return any([has_three(table, kind, place, body, last) for kind in kinds_led_to(grammar, path)])


def thing_at(grammar, worths, path):
    """The kind and the worths of the thing that a letter has at a path, as far as it was read; None where none is."""
    table = table_of(grammar)
    kind = grammar[0][0]
    inner = worths
    for name in path:
        if not is_sort(table, kind, name, LEADING) or name not in inner:
            return None
        kind, inner = inner[name]
    return kind, inner


def begin_at(spreads, path):
    """The byte at which the bytes at a path begin."""
    return [begin for begin, _, at, what, _ in spreads if at == path and what == "bytes"][0]


def piece_of(grammar, carrying, some):
    """The byte at which a letter's body begins and the piece that it carries; None where it carries none."""
    path, place, body, last = carrying
    spreads, worths = read_letter(grammar, some, None)
    thing = thing_at(grammar, worths, path)
    if thing is None or not has_three(table_of(grammar), thing[0], place, body, last):
        return None
    _, inner = thing
    if not all([name is None or name in inner for name in (place, body, last)]):
        return None
    piece = (inner[place], inner[body], last is not None and inner[last] != 0)
    if not is_piece(piece):
        return None
    return begin_at(spreads, path + (body,)), piece


def pieces_of(grammar, carrying, letters):
    """The pieces that letters carry: tuples (number of the letter, the byte at which body begins, piece)."""
    if not is_carrying(grammar, carrying):
        raise NoSetting("carrying")
    told = []
    for number, some in enumerate(letters):
        carried = piece_of(grammar, carrying, some)
        if carried is not None:
            told.append((number,) + carried)
    return told


def end_of_letter(grammar, some, is_end):
    """Where the letter ends with which these bytes begin; None where it isn't whole."""
    # A byte more shows whether the letter is over at the bytes' end: then it is left.
    begin, _, path, what, worth = spreads_of(grammar, some + (0,))[-1]
    if (path, what, worth) == ((), "unknown", "left"):
        return begin
    return len(some) if is_end else None


def letters_in(grammar, some, is_end):
    """The whole letters that lie one behind the other in these bytes: tuples (begin, end, spreads)."""
    letters = []
    begin = 0
    while begin < len(some):
        many = end_of_letter(grammar, some[begin:], is_end)
        if many is None or many == 0:
            break
        letters.append((begin, begin + many, spreads_of(grammar, some[begin:begin + many])))
        begin += many
    return letters


def upper_of(grammar, runs, *, end=None):
    """The letters in the run that begins at 0, whose stream may have a told end, and what of each run is left over."""
    look_at_grammar(grammar)
    letters = []
    left_over = []
    for begin, some in runs:
        over = begin
        if begin == 0:
            letters = letters_in(grammar, some, len(some) == end)
            if letters:
                over = letters[-1][1]
        if over < begin + len(some):
            left_over.append((over, begin + len(some)))
    return letters, left_over
