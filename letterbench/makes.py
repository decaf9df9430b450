"""Makes: ends with code, which answer what they hear and keep a number in a box.

A stand is a tuple (place, box), a letter a tuple (sort, number). Steps are a dict from stands to what is done there at
each of some letters, in their order: tuples (answer, stand behind).
"""

from letterbench.ends import are_places
from letterbench.errors import NoMake
from letterbench.forms import is_tuple_of
from letterbench.numbers import WORDS, is_between, is_byte, is_so, is_word

MOST_ROWS = 24
MOST_BOX = 3
NAMED = ("heard", "box")
DEAF = ("deaf",)


def is_wish(thing):
    """Whether this tells when a row may be done."""
    if thing is None:
        return True
    return is_tuple_of(thing, 3, 3) and thing[0] in NAMED and thing[1] in WORDS and is_byte(thing[2])


def is_answer(thing):
    """Whether this tells what a row answers."""
    if thing is None:
        return True
    return is_tuple_of(thing, 2, 2) and is_word(thing[0]) and (is_byte(thing[1]) or thing[1] in NAMED)


def is_box(thing):
    """Whether this tells what a row makes of the box."""
    return thing is None or thing == "next" or is_between(thing, 0, MOST_BOX)


def is_make_row(thing, places):
    """Whether this is a row of a make with these places."""
    if not is_tuple_of(thing, 6, 6):
        return False
    begin, sort, wish, answer, box, to = thing
    return (
        begin in places
        and is_word(sort)
        and is_wish(wish)
        and is_answer(answer)
        and is_box(box)
        and to in places
    )


def look_at_make(thing):
    """Tells nothing of a make; whatever else is handed in is refused."""
    if not is_tuple_of(thing, 2, 2) or not are_places(thing[0]) or not is_tuple_of(thing[1], 0, MOST_ROWS):
        raise NoMake(None)
    places, rows = thing
    for number, row in enumerate(rows):
        if not is_make_row(row, places):
            raise NoMake(number)


def first_stand(make):
    """Where a make begins."""
    return make[0][0], 0


def all_stands(make):
    """Each place of a make with each number of its box."""
    return [(place, box) for place in make[0] for box in range(MOST_BOX + 1)]


def may_be_done(row, stand, letter):
    """Whether a row may be done at a stand, when a letter is heard."""
    begin, sort, wish, _, _, _ = row
    if begin != stand[0] or sort != letter[0]:
        return False
    if wish is None:
        return True
    what, word, worth = wish
    return is_so(letter[1] if what == "heard" else stand[1], word, worth)


def answer_by(row, stand, letter):
    """What a row answers."""
    answer = row[3]
    if answer is None:
        return None
    sort, number = answer
    if number == "heard":
        return sort, letter[1]
    if number == "box":
        return sort, stand[1]
    return answer


def stand_behind(row, stand):
    """The stand behind a row."""
    _, _, _, _, box, to = row
    if box is None:
        return to, stand[1]
    if box == "next":
        return to, (stand[1] + 1) & MOST_BOX
    return to, box


def heard_at(make, stand, letter):
    """What a make does at a stand, when a letter is heard: the answer and the stand behind."""
    for row in make[1]:
        if may_be_done(row, stand, letter):
            return answer_by(row, stand, letter), stand_behind(row, stand)
    return DEAF, stand


def step_of(make, stand, letter):
    """The answer of a make to a letter heard at a stand, and the stand behind."""
    look_at_make(make)
    return heard_at(make, stand, letter)


def answers(make, letters):
    """What a make answers to letters, one behind the other."""
    look_at_make(make)
    told = []
    stand = first_stand(make)
    for letter in letters:
        answer, stand = heard_at(make, stand, letter)
        told.append(answer)
    return told


def numbers_told(row):
    """The numbers that a row's wish and answer tell."""
    told = []
    if row[2] is not None and row[2][0] == "heard":
        told.append(row[2][2])
    if row[3] is not None and row[3][1] not in NAMED:
        told.append(row[3][1])
    return told


def letters_heard(makes):
    """The letters that makes may hear, sorted, of several numbers that do alike the least one alone."""
    told = {}
    for _, rows in makes:
        for row in rows:
            told.setdefault(row[1], []).extend(numbers_told(row))
    letters = []
    for sort in sorted(told):
        # Numbers may turn out otherwise only at one that is told or that a box may have, and right behind it.
        turns = told[sort] + list(range(MOST_BOX + 1))
        numbers = sorted(set(turns + [number + 1 for number in turns]))
        letters.extend([(sort, number) for number in numbers if number <= 255])
    return letters


def steps_by(make, letters):
    """What a make does at each stand."""
    return {stand: [heard_at(make, stand, letter) for letter in letters] for stand in all_stands(make)}


def come_to(make, steps):
    """The stands that a make can come to, sorted."""
    found = {first_stand(make): True}
    waiting = list(found)
    while waiting:
        stand = waiting.pop()
        for _, behind in steps[stand]:
            if behind not in found:
                found[behind] = True
                waiting.append(behind)
    return sorted(found)


def stands_of(make):
    """The stands that can be come to, sorted."""
    look_at_make(make)
    return come_to(make, steps_by(make, letters_heard([make])))


def parted_lots(steps, lots):
    """Lots of stands parted by what each answers and in which lot it is then."""
    lot_of = {stand: number for number, lot in enumerate(lots) for stand in lot}
    parted = {}
    for stand in sorted(lot_of):
        marks = [(answer, lot_of[behind]) for answer, behind in steps[stand]]
        parted.setdefault((lot_of[stand], tuple(marks)), []).append(stand)
    return list(parted.values())


def lots_of(make):
    """The lots of the stands that can be come to which nothing heard parts, each sorted, sorted."""
    look_at_make(make)
    steps = steps_by(make, letters_heard([make]))
    lots = [come_to(make, steps)]
    parted = parted_lots(steps, lots)
    while len(parted) > len(lots):
        lots = parted
        parted = parted_lots(steps, lots)
    return sorted(lots)
