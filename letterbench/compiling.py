"""Filters made to rows of the machine, one filter behind the other, each going on as soon as its truth is known.

While rows are written, what a row goes to is told by a mark, a number that is put at a place among the rows later.
"""

from letterbench.errors import TooMany
from letterbench.filters import look_at_filter
from letterbench.forms import names_in
from letterbench.grammars import bounds_of, field_called, length_of, number_called, table_of
from letterbench.rows import MOST_ROWS

# How far from its place a row sees or moves at most.
FARTHEST = 500
# The box of what is asked at once; tags that are asked later have those behind it.
PASSING = 0


class Script:
    """Rows while they are written, and where each mark was put."""

    def __init__(self, grammar):
        self.table = table_of(grammar)
        self.first = grammar[0][0]
        self.rows = []
        self.marks = []
        self.has_moved = False


class Stretch:
    """A thing of a kind while rows go over it up to a field.

    It has the box of each tag, how far ahead of the machine's place the rows are, and where to go where the bytes
    are not as they must be. The worths of an early tag, that one kind alone is behind, are asked as soon as it is seen.
    """

    def __init__(self, boxes, otherwise):
        self.boxes = boxes
        self.otherwise = otherwise
        self.ahead = 0
        self.early = None
        self.worths = []


def new_mark(script):
    """A mark that isn't put anywhere yet."""
    script.marks.append(None)
    return len(script.marks) - 1


def put_mark(script, mark):
    """Puts a mark at the row that is written next."""
    script.marks[mark] = len(script.rows)


def write_row(script, row):
    """Writes a row."""
    script.rows.append(row)


def resolved(script):
    """The rows, with the numbers of rows in the stead of marks."""
    rows = []
    for row in script.rows:
        if row[0] in ("back", "end"):
            rows.append(row)
        else:
            rows.append(row[:-1] + (script.marks[row[-1]],))
    return tuple(rows)


def worths_taken(field, name, wish):
    """The least and the most worth of a number or part that a filter takes; where it takes none they are turned."""
    least, most = bounds_of(field, name)
    if wish[0] == "is":
        _, _, word, worth = wish
        if word != "less":
            least = max(least, worth if word == "same" else worth + 1)
        if word != "more":
            most = min(most, worth if word == "same" else worth - 1)
    return least, most


def leads_on(table, kind, path, wish):
    """Whether there are bytes with a thing of this kind, at the beginning of this path, that a filter takes."""
    field = field_called(table, kind, path[0])
    if field is None:
        return False
    if field[0] == "choice":
        return len(ways_on(table, kind, path, wish)) > 0
    least, most = worths_taken(field, path[0], wish)
    return least <= most


def ways_on(table, kind, path, wish):
    """The ways of a choice, at the beginning of a path, by which a filter may take bytes."""
    _, _, tag, ways = field_called(table, kind, path[0])
    least, most = bounds_of(field_called(table, kind, tag), tag)
    come_to = [(worth, inner) for worth, inner in ways if least <= worth <= most]
    if len(path) == 1:
        return [(worth, inner) for worth, inner in come_to if inner == wish[2]]
    return [(worth, inner) for worth, inner in come_to if leads_on(table, inner, path[1:], wish)]


def write_moves(script, stretch):
    """Moves the place to where the rows are, which are so known to be within the bytes."""
    while stretch.ahead > 0:
        more = min(stretch.ahead, FARTHEST)
        write_row(script, ("move", more, stretch.otherwise))
        script.has_moved = True
        stretch.ahead -= more


def write_take(script, stretch, field, name):
    """Takes a number, or a part of bits."""
    if stretch.ahead > FARTHEST:
        write_moves(script, stretch)
    box = stretch.boxes.get(name, PASSING)
    if field[0] == "number":
        write_row(script, ("take", box, stretch.ahead, field[2], field[3], stretch.otherwise))
        return
    shift = 8
    for part, width in field[1]:
        shift -= width
        if part == name:
            write_row(script, ("part", box, stretch.ahead, shift, width, stretch.otherwise))


def most_of(field, name):
    """The most that a number or part may be by its bytes or bits alone."""
    if field[0] == "number":
        return (1 << (8 * field[2])) - 1
    _, most = bounds_of(field, name)
    return most


def write_bounds(script, stretch, field, name, bounds):
    """Goes elsewhere where what was taken isn't within these bounds."""
    least, most = bounds
    box = stretch.boxes.get(name, PASSING)
    if least > 0:
        write_row(script, ("ask", box, "less", least, stretch.otherwise))
    if most < most_of(field, name):
        write_row(script, ("ask", box, "more", most, stretch.otherwise))


def write_asks(script, stretch, name, marks):
    """Goes to these marks, tuples (worth, mark), by what was taken, and elsewhere by all else."""
    for worth, mark in marks:
        write_row(script, ("ask", stretch.boxes.get(name, PASSING), "same", worth, mark))
    write_row(script, ("go", stretch.otherwise))


def write_tag(script, stretch, field, name):
    """Takes a number or part; where it is the early tag, all that doesn't lead on goes elsewhere."""
    write_take(script, stretch, field, name)
    if name == stretch.early:
        mark = new_mark(script)
        write_asks(script, stretch, name, [(worth, mark) for worth in stretch.worths])
        put_mark(script, mark)
    else:
        write_bounds(script, stretch, field, name, bounds_of(field, name))


def write_numbers(script, stretch, field):
    """Goes over a number or bits, of which are taken the tags, and what has bounds."""
    for name in names_in(field):
        if name in stretch.boxes or bounds_of(field, name) != (0, most_of(field, name)):
            write_tag(script, stretch, field, name)
    stretch.ahead += field[2] if field[0] == "number" else 1


def write_bytes(script, stretch, field):
    """Goes over bytes."""
    length = field[2]
    if length[0] == "is":
        stretch.ahead += length[1]
        return
    _, tag, times, more = length
    write_moves(script, stretch)
    write_row(script, ("skip", stretch.boxes[tag], times, more, stretch.otherwise))
    script.has_moved = True


def boxes_of(fields, number):
    """A box for each tag that the bytes ahead of this field, or the field itself as a choice, hang on."""
    boxes = {}
    for field in fields[:number]:
        length = length_of(field)
        if length is not None and length[0] == "of" and length[1] not in boxes:
            boxes[length[1]] = len(boxes) + 1
    if fields[number][0] == "choice" and fields[number][2] not in boxes:
        boxes[fields[number][2]] = len(boxes) + 1
    return boxes


def write_stretch(script, stretch, fields):
    """Goes over these fields."""
    for field in fields:
        if field[0] == "bytes":
            write_bytes(script, stretch, field)
        else:
            write_numbers(script, stretch, field)


def write_test(script, stretch, field, wish, so):
    """Asks the number or part that a filter names."""
    name = wish[1][-1]
    least, most = worths_taken(field, name, wish)
    write_take(script, stretch, field, name)
    if least == most:
        write_asks(script, stretch, name, [(least, so)])
    else:
        write_bounds(script, stretch, field, name, (least, most))
        write_row(script, ("go", so))


def write_choice(script, stretch, fields, number, marks):
    """Goes over what is ahead of a choice, and to these marks, tuples (worth, mark), by its tag."""
    tag = fields[number][2]
    first = marks[0][1]
    if all([mark == first for _, mark in marks]):
        stretch.early = tag
        stretch.worths = [worth for worth, _ in marks]
    write_stretch(script, stretch, fields[:number])
    write_moves(script, stretch)
    if stretch.early is None:
        write_asks(script, stretch, tag, marks)
    else:
        write_row(script, ("go", first))


def marks_of(script, ways, behind):
    """The marks of these ways, tuples (worth, mark); a kind that has none yet among those behind is given a new one."""
    marks = []
    for worth, kind in ways:
        if kind not in behind:
            behind[kind] = new_mark(script)
        marks.append((worth, behind[kind]))
    return marks


def write_leaf(script, wish, so, otherwise):
    """Goes the path of a filter, kind by kind, and then to where its truth tells."""
    path = wish[1]
    if not leads_on(script.table, script.first, path, wish):
        write_row(script, ("go", otherwise))
        return
    if script.has_moved:
        write_row(script, ("back",))
    kinds = {script.first: new_mark(script)}
    for depth, name in enumerate(path):
        behind = {wish[2]: so} if wish[0] == "kind" and depth == len(path) - 1 else {}
        for kind, mark in list(kinds.items()):
            put_mark(script, mark)
            fields = script.table[kind]
            number = number_called(fields, name)
            stretch = Stretch(boxes_of(fields, number), otherwise)
            if fields[number][0] == "choice":
                marks = marks_of(script, ways_on(script.table, kind, path[depth:], wish), behind)
                write_choice(script, stretch, fields, number, marks)
            else:
                write_stretch(script, stretch, fields[:number])
                write_test(script, stretch, fields[number], wish, so)
        kinds = behind


def write_wish(script, wish, so, otherwise):
    """Writes the rows of a filter, which go to one mark where it takes the bytes, to the other one else."""
    word = wish[0]
    if word == "yes":
        write_row(script, ("go", so))
    elif word == "not":
        write_wish(script, wish[1], otherwise, so)
    elif word in ("and", "or"):
        second = new_mark(script)
        if word == "and":
            write_wish(script, wish[1], second, otherwise)
        else:
            write_wish(script, wish[1], so, second)
        put_mark(script, second)
        write_wish(script, wish[2], so, otherwise)
    else:
        write_leaf(script, wish, so, otherwise)


def rows_for(grammar, wish):
    """Rows that tell on all bytes whether a filter takes them."""
    look_at_filter(grammar, wish)
    script = Script(grammar)
    so = new_mark(script)
    otherwise = new_mark(script)
    write_wish(script, wish, so, otherwise)
    put_mark(script, so)
    write_row(script, ("end", True))
    put_mark(script, otherwise)
    write_row(script, ("end", False))
    if len(script.rows) > MOST_ROWS:
        raise TooMany(len(script.rows))
    return resolved(script)
