"""Talks of two ends of which some steps were caught: how few must have been missed, and where both may stand.

Spots, steps and layers are told in letterbench/layers.py.
"""

from letterbench.ends import look_at_catch, look_at_end
from letterbench.errors import NoEnd
from letterbench.forms import is_tuple_of
from letterbench.layers import caught_on, first_spot, layers_from, layers_to, steps_of
from letterbench.numbers import is_between, is_whole


class Talk:
    """Two ends and what was caught ahead of the first step that can't be.

    By how many were caught, ahead tells how few were missed up to a spot, left how few from there to the last caught.
    """

    def __init__(self, ends, catch):
        self.first = first_spot(ends)
        self.steps = steps_of(ends)
        self.ahead = layers_from(self.steps, {self.first: 0}, catch)
        self.many = len(self.ahead) - 1
        self.catch = catch[:self.many]
        self.is_against = self.many < len(catch)
        self.left = layers_to(ends, self.steps, self.catch)
        self.least = self.left[0][self.first]


def talk_with(ends, catch):
    """A talk; the first end that is none is refused, then what is no catch."""
    if not is_tuple_of(ends, 2, 2):
        raise NoEnd(None)
    look_at_end(ends[0])
    look_at_end(ends[1])
    look_at_catch(catch)
    return Talk(ends, catch)


def talk_of(ends, catch):
    """The least number of steps that must have been missed, and its table; or the first caught one that can't be."""
    talk = talk_with(ends, catch)
    if talk.is_against:
        return ("against", talk.many)
    table = {(number,) + spot: layer[spot] for number, layer in enumerate(talk.ahead) for spot in layer}
    return ("least", talk.least, table)


def is_key(thing, talk):
    """Whether this is by its form a key of a talk's table."""
    return is_tuple_of(thing, 3, 3) and is_between(thing[0], 0, talk.many) and thing[1:] in talk.steps


def ways_from(talk, key):
    """Where a talk may come from a key of its table by one step, and how many are missed by it: tuples (key, many)."""
    number = key[0]
    ways = []
    for side, sort, to in talk.steps[key[1:]]:
        ways.append(((number,) + to, 1))
        if number < talk.many and talk.catch[number] == (side, sort):
            ways.append(((number + 1,) + to, 0))
    return ways


def adds_up(talk, table):
    """Whether each key's number is the least one of what the keys that lead to it add up to, and no key is lacking."""
    come_to = {(0,) + talk.first: True}
    for key in table:
        for to, many in ways_from(talk, key):
            if to not in table or table[to] > table[key] + many:
                return False
            if table[to] == table[key] + many:
                come_to[to] = True
    return len(come_to) == len(table)


def lets_table(ends, catch, thing):
    """Whether this is the table of the least numbers of missed steps of a talk."""
    talk = talk_with(ends, catch)
    if talk.is_against or not isinstance(thing, dict):
        return False
    if not all([is_key(key, talk) and is_whole(thing[key]) for key in thing]):
        return False
    return thing.get((0,) + talk.first) == 0 and adds_up(talk, thing)


def next_step(talk, number, spot):
    """A step from a spot by which no more is missed than must be: (side, sort, caught), and the spot behind it."""
    many = talk.left[number][spot]
    for side, sort, to in talk.steps[spot]:
        if talk.catch[number] == (side, sort) and talk.left[number + 1].get(to) == many:
            return (side, sort, True), to
    for side, sort, to in talk.steps[spot]:
        if talk.left[number].get(to) == many - 1:
            return (side, sort, False), to
    return None, spot


def way_of(ends, catch):
    """The steps in order, (side, sort, caught) each, with the least number missed; None where the catch can't be."""
    talk = talk_with(ends, catch)
    if talk.is_against:
        return None
    way = []
    number = 0
    spot = talk.first
    while number < talk.many:
        step, spot = next_step(talk, number, spot)
        way.append(step)
        if step[2]:
            number += 1
    return way


def spots_behind(talk, number):
    """Where both ends may stand right behind so many caught steps."""
    if number == 0:
        return [talk.first]
    behind = caught_on(talk.steps, talk.ahead[number - 1], talk.catch[number - 1])
    return [spot for spot in behind if spot in talk.left[number]]


def places_of(spots, end):
    """The places of an end in these spots, sorted, each once."""
    return sorted({spot[end] for spot in spots})


def all_places(talk):
    """For each number caught the places of both ends right behind it."""
    spots = [spots_behind(talk, number) for number in range(talk.many + 1)]
    return [(places_of(stand, 0), places_of(stand, 1)) for stand in spots]


def places_at(ends, catch):
    """For each number caught, from 0, the places at which each end may stand right behind the last one caught."""
    return all_places(talk_with(ends, catch))


def sureness(ends, catch):
    """For each one caught whether it is sure, possible or against."""
    talk = talk_with(ends, catch)
    words = []
    for one, other in all_places(talk)[1:]:
        words.append("sure" if len(one) == 1 and len(other) == 1 else "possible")
    return words + ["against" for _ in range(len(catch) - talk.many)]


def least_caught(talk, number):
    """The caught steps with this number by which no more is missed than must be: tuples (spot, spot behind)."""
    found = []
    for spot, ahead in talk.ahead[number].items():
        for side, sort, to in talk.steps[spot]:
            behind = talk.left[number + 1].get(to)
            if talk.catch[number] == (side, sort) and behind is not None and ahead + behind == talk.least:
                found.append((spot, to))
    return found


def least_missed(talk, number):
    """The missed steps behind so many caught ones by which no more is missed than must be: (spot, side, sort, spot)."""
    found = []
    for spot, ahead in talk.ahead[number].items():
        for side, sort, to in talk.steps[spot]:
            behind = talk.left[number].get(to)
            if behind is not None and ahead + 1 + behind == talk.least:
                found.append((spot, side, sort, to))
    return found


def is_wanted(begins, ends, missed, side, sort):
    """Whether no way from the one spots to the other ones by these missed steps does without one of a side and sort."""
    steps = [(spot, to) for spot, sayer, said, to in missed if (sayer, said) != (side, sort)]
    found = {spot: True for spot in begins}
    waiting = list(found)
    while waiting:
        now = waiting.pop()
        for spot, to in steps:
            if spot == now and to not in found:
                found[to] = True
                waiting.append(to)
    return not any([spot in found for spot in ends])


def wanted(ends, catch):
    """The missed steps that each way with the least number missed has: (number, side, sort), sorted, each once."""
    talk = talk_with(ends, catch)
    if talk.is_against:
        return []
    found = []
    begins = [talk.first]
    for number in range(talk.many):
        caught = least_caught(talk, number)
        missed = least_missed(talk, number)
        for side, sort in sorted({(side, sort) for _, side, sort, _ in missed}):
            if is_wanted(begins, [spot for spot, _ in caught], missed, side, sort):
                found.append((number, side, sort))
        begins = [to for _, to in caught]
    return found
