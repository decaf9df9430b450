"""Filters told on fields: looked at, and whether they take bytes."""

from letterbench.errors import NoFilter
from letterbench.forms import REST, is_tuple_of
from letterbench.grammars import ahead_of_sum, field_to_rest, look_at_grammar, named_kinds, number_called, table_of
from letterbench.numbers import WORDS, is_so, is_whole, is_word
from letterbench.reading import read_letter

MOST_WITHIN = 6
MOST_FILTERS = 12
MOST_NAMES = 4

# How many things a filter has, its word among them, and how many of these, the last ones, are filters.
FORMS = {
    "yes": (1, 0),
    "is": (4, 0),
    "there": (2, 0),
    "kind": (3, 0),
    "not": (2, 1),
    "and": (3, 2),
    "or": (3, 2),
}


def is_gone_over(field):
    """Whether a filter may go over this field to what is behind it."""
    return field[0] in ("number", "bits") or (field[0] == "bytes" and field[2] != REST)


def is_come_to(table, fields, number, words):
    """Whether this field of a kind is of these sorts, and a filter may come to it."""
    field = fields[number]
    if field[0] not in words or not all([is_gone_over(ahead) for ahead in fields[:number]]):
        return False
    return not ahead_of_sum(fields, number) or not field_to_rest(table, field, {})


def kinds_behind(table, kinds, name, words):
    """The kinds that a step of a path leads to from these, as a dict's keys; None where it may not be made."""
    behind = {}
    steps = 0
    for kind in kinds:
        fields = table[kind]
        number = number_called(fields, name)
        if number is not None:
            if not is_come_to(table, fields, number, words):
                return None
            steps += 1
            for inner in named_kinds(fields[number]):
                behind[inner] = True
    if steps == 0:
        return None
    return behind


def is_path(grammar, thing, words):
    """Whether this is a filter's path to fields of these sorts."""
    if not is_tuple_of(thing, 1, MOST_NAMES):
        return False
    table = table_of(grammar)
    kinds = {grammar[0][0]: True}
    for name in thing[:-1]:
        kinds = kinds_behind(table, kinds, name, ("choice",))
        if kinds is None:
            return False
    return kinds_behind(table, kinds, thing[-1], words) is not None


def fits_grammar(grammar, thing):
    """Whether the path, word, worth and kind of a filter are so; its form is."""
    word = thing[0]
    if word == "is":
        if thing[2] not in WORDS or not is_whole(thing[3]) or thing[3] < 0:
            return False
    if word in ("is", "there"):
        return is_path(grammar, thing[1], ("number", "bits"))
    if word == "kind":
        return is_word(thing[2]) and thing[2] in table_of(grammar) and is_path(grammar, thing[1], ("choice",))
    return True


def is_formed(thing):
    """Whether this has a filter's word and as many things."""
    if not isinstance(thing, tuple) or not thing or not isinstance(thing[0], str) or thing[0] not in FORMS:
        return False
    return len(thing) == FORMS[thing[0]][0]


def filters_in(thing):
    """The filters that a filter has in it."""
    _, many = FORMS[thing[0]]
    return thing[len(thing) - many:]


def many_filters(grammar, thing, depth):
    """How many filters, so many within one another at most, these are; None where one is none."""
    if depth == 0 or not is_formed(thing) or not fits_grammar(grammar, thing):
        return None
    many = 1
    for inner in filters_in(thing):
        within = many_filters(grammar, inner, depth - 1)
        if within is None:
            return None
        many += within
    return many


def is_filter(grammar, thing):
    """Whether this is a filter of a grammar."""
    many = many_filters(grammar, thing, MOST_WITHIN)
    return many is not None and many <= MOST_FILTERS


def look_at_filter(grammar, thing):
    """Tells nothing of a filter; whatever else is handed in is refused."""
    look_at_grammar(grammar)
    if not is_filter(grammar, thing):
        raise NoFilter("no filter of this grammar")


def worth_at(worths, path):
    """The worth at a path, of a choice a tuple that begins with its kind; None where it isn't there."""
    inner = worths
    for name in path[:-1]:
        if name not in inner:
            return None
        _, inner = inner[name]
    return inner.get(path[-1])


def is_taken(wish, worths):
    """Whether a filter takes a letter, by the worths of what was read well of it."""
    word = wish[0]
    if word == "yes":
        return True
    if word == "not":
        return not is_taken(wish[1], worths)
    if word == "and":
        return is_taken(wish[1], worths) and is_taken(wish[2], worths)
    if word == "or":
        return is_taken(wish[1], worths) or is_taken(wish[2], worths)
    worth = worth_at(worths, wish[1])
    if worth is None or word == "there":
        return worth is not None
    if word == "kind":
        return worth[0] == wish[2]
    return is_so(worth, wish[2], wish[3])


def takes(grammar, wish, some):
    """Whether a filter takes bytes."""
    look_at_filter(grammar, wish)
    _, worths = read_letter(grammar, some, None)
    return is_taken(wish, worths)
