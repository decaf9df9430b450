"""Filters made to rows of the machine, one filter behind the other, each going on as soon as its truth is known.

While rows are written, what a row goes to is told by a mark, a number that is put at a place among the rows later.
"""

from letterbench.errors import TooMany
from letterbench.filters import look_at_filter
from letterbench.grammars import field_called, length_of, named_kinds, number_called, table_of
from letterbench.rows import MOST_ROWS

# How far from its place a row sees or moves at most.
FARTHEST = 500
# The box of what is asked at once; tags that are asked later have those behind it.
PASSING = 0


class Script:
    """Rows while they are written, and where each mark was put."""

    def __init__(self, grammar):
        self.table = table_of(grammar)
        self.first = grammar[0][0]
        self.rows = []
        self.marks = []
        self.has_moved = False


class Stretch:
    """A thing of a kind while rows go over it: the box of each tag, how far ahead of the machine's place they are."""

    def __init__(self, boxes, otherwise):
        self.boxes = boxes
        self.ahead = 0
        self.otherwise = otherwise


def new_mark(script):
    """A mark that isn't put anywhere yet."""
    script.marks.append(None)
    return len(script.marks) - 1


def put_mark(script, mark):
    """Puts a mark at the row that is written next."""
    script.marks[mark] = len(script.rows)


def write_row(script, row):
    """Writes a row."""
    script.rows.append(row)


def resolved(script):
    """The rows, with the numbers of rows in the stead of marks."""
    rows = []
    for row in script.rows:
        if row[0] in ("back", "end"):
            rows.append(row)
        else:
            rows.append(row[:-1] + (script.marks[row[-1]],))
    return tuple(rows)


def write_moves(script, stretch):
    """Moves the place to where the rows are, which are so known to be within the bytes."""
    while stretch.ahead > 0:
        more = min(stretch.ahead, FARTHEST)
        write_row(script, ("move", more, stretch.otherwise))
        script.has_moved = True
        stretch.ahead -= more


def write_take(script, stretch, field, name):
    """Takes a number, or a part of bits, and goes elsewhere where it isn't there or is beyond its bounds."""
    if stretch.ahead > FARTHEST:
        write_moves(script, stretch)
    box = stretch.boxes.get(name, PASSING)
    if field[0] == "bits":
        widths = [width for _, width in field[1]]
        number = [part for part, _ in field[1]].index(name)
        shift = sum(widths[number + 1:])
        write_row(script, ("part", box, stretch.ahead, shift, widths[number], stretch.otherwise))
        return
    _, _, size, order, least, most = field
    write_row(script, ("take", box, stretch.ahead, size, order, stretch.otherwise))
    if least > 0:
        write_row(script, ("ask", box, "less", least, stretch.otherwise))
    if most < (1 << (8 * size)) - 1:
        write_row(script, ("ask", box, "more", most, stretch.otherwise))


def write_number(script, stretch, field):
    """Goes over a number, which is taken where it is a tag or has bounds."""
    _, name, size, _, least, most = field
    if name in stretch.boxes or least > 0 or most < (1 << (8 * size)) - 1:
        write_take(script, stretch, field, name)
    stretch.ahead += size


def write_bits(script, stretch, field):
    """Goes over bits, of which the tags are taken."""
    for name, _ in field[1]:
        if name in stretch.boxes:
            write_take(script, stretch, field, name)
    stretch.ahead += 1


def write_bytes(script, stretch, field):
    """Goes over bytes."""
    length = field[2]
    if length[0] == "is":
        stretch.ahead += length[1]
        return
    _, tag, times, more = length
    write_moves(script, stretch)
    write_row(script, ("skip", stretch.boxes[tag], times, more, stretch.otherwise))
    script.has_moved = True


WRITERS = {
    "number": write_number,
    "bits": write_bits,
    "bytes": write_bytes,
}


def boxes_of(fields, number):
    """A box for each tag that the bytes ahead of this field, or the field itself as a choice, hang on."""
    boxes = {}
    for field in fields[:number]:
        length = length_of(field)
        if length is not None and length[0] == "of" and length[1] not in boxes:
            boxes[length[1]] = len(boxes) + 1
    if fields[number][0] == "choice" and fields[number][2] not in boxes:
        boxes[fields[number][2]] = len(boxes) + 1
    return boxes


def leads_on(table, kind, path):
    """Whether from this kind on a path leads to a field by some way."""
    field = field_called(table, kind, path[0])
    if field is None or len(path) == 1:
        return field is not None
    return any([leads_on(table, inner, path[1:]) for inner in named_kinds(field)])


def write_ways(script, stretch, field, marks):
    """Goes by a choice's tag to where the marks of the kinds are; elsewhere from all others."""
    write_moves(script, stretch)
    for worth, kind in field[3]:
        # No tag has a worth below 0, and none may be asked.
        if kind in marks and worth >= 0:
            write_row(script, ("ask", stretch.boxes[field[2]], "same", worth, marks[kind]))
    write_row(script, ("go", stretch.otherwise))


def write_test(script, stretch, field, wish, so):
    """Asks the number or part that a filter names."""
    write_take(script, stretch, field, wish[1][-1])
    if wish[0] == "is":
        write_row(script, ("ask", PASSING, wish[2], wish[3], so))
        write_row(script, ("go", stretch.otherwise))
    else:
        write_row(script, ("go", so))


def marks_behind(script, kinds, path):
    """Marks for the kinds behind a choice of these, by the path's first name, from which the rest of it leads on."""
    marks = {}
    for kind in kinds:
        for inner in named_kinds(field_called(script.table, kind, path[0])):
            if inner not in marks and leads_on(script.table, inner, path[1:]):
                marks[inner] = new_mark(script)
    return marks


def write_stretch(script, kind, name, otherwise):
    """Goes over a thing of a kind up to the field of this name; told are the stretch and the field."""
    fields = script.table[kind]
    number = number_called(fields, name)
    stretch = Stretch(boxes_of(fields, number), otherwise)
    for field in fields[:number]:
        write = WRITERS[field[0]]
        write(script, stretch, field)
    return stretch, fields[number]


def write_leaf(script, wish, so, otherwise):
    """Goes the path of a filter, kind by kind, and then to where its truth tells."""
    if script.has_moved:
        write_row(script, ("back",))
    path = wish[1]
    start = new_mark(script)
    kinds = {script.first: start}
    for depth, name in enumerate(path):
        if depth < len(path) - 1:
            behind = marks_behind(script, kinds, path[depth:])
        elif wish[0] == "kind":
            behind = {wish[2]: so}
        else:
            behind = None
        for kind in kinds:
            put_mark(script, kinds[kind])
            stretch, field = write_stretch(script, kind, name, otherwise)
            if behind is None:
                write_test(script, stretch, field, wish, so)
            else:
                write_ways(script, stretch, field, behind)
        kinds = behind


def write_wish(script, wish, so, otherwise):
    """Writes the rows of a filter, which go to one mark where it takes the bytes, to the other one else."""
    word = wish[0]
    if word == "yes":
        write_row(script, ("go", so))
    elif word == "not":
        write_wish(script, wish[1], otherwise, so)
    elif word in ("and", "or"):
        second = new_mark(script)
        if word == "and":
            write_wish(script, wish[1], second, otherwise)
        else:
            write_wish(script, wish[1], so, second)
        put_mark(script, second)
        write_wish(script, wish[2], so, otherwise)
    else:
        write_leaf(script, wish, so, otherwise)


def rows_for(grammar, wish):
    """Rows that tell on all bytes whether a filter takes them."""
    look_at_filter(grammar, wish)
    script = Script(grammar)
    so = new_mark(script)
    otherwise = new_mark(script)
    write_wish(script, wish, so, otherwise)
    put_mark(script, so)
    write_row(script, ("end", True))
    put_mark(script, otherwise)
    write_row(script, ("end", False))
    if len(script.rows) > MOST_ROWS:
        raise TooMany(len(script.rows))
    return resolved(script)
