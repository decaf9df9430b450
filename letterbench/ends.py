"""Ends of talks, which tell what may be heard and said from where, and what was caught of a talk: both looked at."""

from letterbench.errors import NoCatch, NoEnd
from letterbench.forms import is_tuple_of
from letterbench.numbers import is_between, is_word

MOST_PLACES = 8
MOST_ROWS = 12
MOST_CAUGHT = 60
DEEDS = ("hears", "says")


def are_places(thing):
    """Whether these are the unlike words of an end's places."""
    if not is_tuple_of(thing, 1, MOST_PLACES) or not all([is_word(place) for place in thing]):
        return False
    return len(set(thing)) == len(thing)


def is_end_row(thing, places):
    """Whether this is by itself a row of an end with these places."""
    if not is_tuple_of(thing, 4, 4):
        return False
    begin, deed, sort, to = thing
    return begin in places and deed in DEEDS and is_word(sort) and to in places


def look_at_end(thing):
    """Tells nothing of an end; whatever else is handed in is refused."""
    if not is_tuple_of(thing, 2, 2) or not are_places(thing[0]) or not is_tuple_of(thing[1], 0, MOST_ROWS):
        raise NoEnd(None)
    places, rows = thing
    for number, row in enumerate(rows):
        if not is_end_row(row, places) or row in rows[:number]:
            raise NoEnd(number)


def is_end(thing):
    """Whether this is an end."""
    try:
        look_at_end(thing)
    except NoEnd:
        return False
    return True


def is_caught(thing):
    """Whether this is a step that was caught."""
    return is_tuple_of(thing, 2, 2) and is_between(thing[0], 0, 1) and is_word(thing[1])


def look_at_catch(thing):
    """Tells nothing of a talk's catch; whatever else is handed in is refused."""
    if not isinstance(thing, list) or len(thing) > MOST_CAUGHT:
        raise NoCatch(None)
    for number, caught in enumerate(thing):
        if not is_caught(caught):
            raise NoCatch(number)
