"""Grammars: looked at, and what is told of them.

A table is a dict from the names of a grammar's kinds to their fields.
"""

from letterbench.errors import NoGrammar, NoKind
from letterbench.forms import REST, first_unlike, is_tuple_of, names_in
from letterbench.numbers import is_word, sum_size

MOST_KINDS = 10
MOST_FIELDS = 8


def table_of(grammar):
    """The fields of a grammar's kinds, by the kinds' names."""
    return {name: fields for name, fields in grammar}


def kinds_of(grammar):
    """The names of a grammar's kinds, in order."""
    return [name for name, _ in grammar]


def fields_of(grammar, kind):
    """The fields of a kind."""
    table = table_of(grammar)
    if not is_word(kind) or kind not in table:
        raise NoKind(kind)
    return table[kind]


def kind_or_first(grammar, kind):
    """The name of the kind that is meant: of None the first one's."""
    if kind is None:
        return grammar[0][0]
    fields_of(grammar, kind)
    return kind


def length_of(field):
    """What tells the length of bytes, of a carried room, or how many things a row has; None of other fields."""
    if field[0] in ("bytes", "carried"):
        return field[2]
    if field[0] == "row":
        return field[3]
    return None


def many_told(length, worths):
    """How many bytes a length tells by the worths of its kind's tags; None of one to the rest."""
    if length[0] == "is":
        return length[1]
    if length[0] == "of":
        _, tag, times, more = length
        return times * worths[tag] + more
    return None


def way_of(field, worths):
    """The kind that a choice comes to by its tag's worth; None where there is none."""
    for worth, kind in field[3]:
        if worth == worths[field[2]]:
            return kind
    return None


def number_called(fields, name):
    """The number of the field that has this name, itself or as a part; None where none has."""
    for number, field in enumerate(fields):
        if name in names_in(field):
            return number
    return None


def field_called(table, kind, name):
    """The field of a kind that has this name, itself or as a part; None where none has."""
    number = number_called(table[kind], name)
    if number is None:
        return None
    return table[kind][number]


def bounds_of(field, name):
    """The least and the most worth of a number, or of the part of bits that has this name."""
    if field[0] == "number":
        return field[4], field[5]
    widths = {part: width for part, width in field[1]}
    return 0, (1 << widths[name]) - 1


def named_kinds(field):
    """The names of the kinds that a field has in it."""
    if field[0] == "choice":
        return [kind for _, kind in field[3]]
    if field[0] == "row":
        return [field[2]]
    if field[0] == "carried":
        return [field[3]]
    return []


def kinds_within(table, kind):
    """The kinds that a kind has in it, by whatever way, as a dict's keys."""
    found = {}
    waiting = [kind]
    while waiting:
        outer = waiting.pop()
        for field in table[outer]:
            for inner in named_kinds(field):
                if inner not in found:
                    found[inner] = True
                    waiting.append(inner)
    return found


def kind_to_rest(table, kind, known):
    """Whether a kind goes to the rest; known keeps what was told, for many ways may lead to one kind."""
    if kind not in known:
        known[kind] = any([field_to_rest(table, field, known) for field in table[kind]])
    return known[kind]


def field_to_rest(table, field, known):
    """Whether a field goes to the rest; known as above."""
    if field[0] == "choice":
        return any([kind_to_rest(table, kind, known) for kind in named_kinds(field)])
    return length_of(field) == REST


def least_tags(fields):
    """The least worth of each number and part of a kind."""
    least = {}
    for field in fields:
        if field[0] == "number":
            least[field[1]] = field[4]
        if field[0] == "bits":
            for name, _ in field[1]:
                least[name] = 0
    return least


def least_by_length(length, tags):
    """The least number of bytes that a length tells."""
    if length[0] == "is":
        return length[1]
    if length[0] == "of":
        return max(0, tags[length[1]] * length[2] + length[3])
    return 0


def least_of_field(table, field, tags, known):
    """The least number of bytes of a field, by the least worths of the tags of its kind."""
    word = field[0]
    if word == "number":
        return field[2]
    if word == "sum":
        return sum_size(field[2])
    if word in ("bytes", "carried"):
        return least_by_length(field[2], tags)
    if word == "choice":
        return min([least_of_kind(table, kind, known) for kind in named_kinds(field)])
    if word == "row":
        if field[3] == REST:
            return 0
        return tags[field[3][1]] * least_of_kind(table, field[2], known)
    return 1


def least_of_kind(table, kind, known):
    """The least number of bytes of a kind; known keeps what was told, for many ways may lead to one kind."""
    if kind not in known:
        tags = least_tags(table[kind])
        known[kind] = sum([least_of_field(table, field, tags, known) for field in table[kind]])
    return known[kind]


def least_of(grammar, kind):
    """The least number of bytes that a thing of this kind has."""
    fields_of(grammar, kind)
    return least_of_kind(table_of(grammar), kind, {})


def look_at_kind(number, kind, stood):
    """Refuses a kind that isn't so by itself and by the names that stood ahead."""
    if not is_tuple_of(kind, 2, 2):
        raise NoGrammar(number, None)
    name, fields = kind
    if not is_word(name) or name in stood or not is_tuple_of(fields, 1, MOST_FIELDS):
        raise NoGrammar(number, None)
    wrong = first_unlike(fields)
    if wrong is not None:
        raise NoGrammar(number, wrong)


def places_in(grammar):
    """For each field, in order, the numbers of its kind and itself, and the kind."""
    places = []
    for at, kind in enumerate(grammar):
        for number in range(len(kind[1])):
            places.append((at, number, kind))
    return places


def look_at_named(grammar, table):
    """Refuses the first field that names a kind that isn't there."""
    for at, number, (_, fields) in places_in(grammar):
        if not all([kind in table for kind in named_kinds(fields[number])]):
            raise NoGrammar(at, number)


def look_at_circles(grammar, table):
    """Refuses the first field by which a kind has itself in it."""
    # A kind that a field of its own names is within itself, too.
    within = {kind: kinds_within(table, kind) for kind in table}
    for at, number, (name, fields) in places_in(grammar):
        for kind in named_kinds(fields[number]):
            if name in within[kind]:
                raise NoGrammar(at, number)


def ahead_of_sum(fields, number):
    """Whether this field is the last but one of these, and a sum is the last."""
    return number == len(fields) - 2 and fields[-1][0] == "sum"


def look_at_rests(grammar, table):
    """Refuses the first field that goes to the rest where it may not, or is a row of what may not be."""
    resting = {}
    least = {}
    for at, number, (_, fields) in places_in(grammar):
        field = fields[number]
        is_end = number == len(fields) - 1 or ahead_of_sum(fields, number)
        if not is_end and field_to_rest(table, field, resting):
            raise NoGrammar(at, number)
        if field[0] == "row":
            kind = field[2]
            if kind_to_rest(table, kind, resting) or least_of_kind(table, kind, least) == 0:
                raise NoGrammar(at, number)


def look_at_grammar(thing):
    """Tells nothing of a grammar; whatever else is handed in is refused."""
    if not is_tuple_of(thing, 1, MOST_KINDS):
        raise NoGrammar(None, None)
    stood = {}
    for number, kind in enumerate(thing):
        look_at_kind(number, kind, stood)
        stood[kind[0]] = True
    table = table_of(thing)
    look_at_named(thing, table)
    look_at_circles(thing, table)
    look_at_rests(thing, table)


def is_grammar(thing):
    """Whether this is a grammar."""
    try:
        look_at_grammar(thing)
    except NoGrammar:
        return False
    return True
