"""Two makes compared: the pairs of stands that both come to by the same letters, or letters that part them."""

from letterbench.forms import is_tuple_of
from letterbench.makes import answers, first_stand, letters_heard, look_at_make, steps_by
from letterbench.numbers import is_byte, is_whole, is_word


class Couple:
    """Two makes side by side: the letters that both may hear, what each does at them, and the first pair of stands."""

    def __init__(self, one, other):
        look_at_make(one)
        look_at_make(other)
        self.letters = letters_heard([one, other])
        self.steps = steps_by(one, self.letters)
        self.other_steps = steps_by(other, self.letters)
        self.first = (first_stand(one), first_stand(other))


def both_at(couple, pair):
    """What both do at a pair of stands, letter by letter: tuples (letter, whether they answer alike, pair behind)."""
    stand, other = pair
    told = []
    for letter, step, other_step in zip(couple.letters, couple.steps[stand], couple.other_steps[other]):
        told.append((letter, step[0] == other_step[0], (step[1], other_step[1])))
    return told


def compared_makes(one, other):
    """What is told of two makes: that they are alike and by which pairs, or the least letters that part them."""
    couple = Couple(one, other)
    # Pairs are come to by the least letters first, so that the first ones that part are the least ones.
    ways = {couple.first: []}
    waiting = [couple.first]
    at = 0
    while at < len(waiting):
        pair = waiting[at]
        for letter, is_alike, behind in both_at(couple, pair):
            if not is_alike:
                return ("parted", ways[pair] + [letter])
            if behind not in ways:
                ways[behind] = ways[pair] + [letter]
                waiting.append(behind)
        at += 1
    return ("alike", sorted(waiting))


def is_stand(thing, steps):
    """Whether this is a stand of the make that does these steps."""
    return is_tuple_of(thing, 2, 2) and is_word(thing[0]) and is_whole(thing[1]) and thing in steps


def is_pair(thing, couple):
    """Whether this is a tuple of a stand of each make."""
    return is_tuple_of(thing, 2, 2) and is_stand(thing[0], couple.steps) and is_stand(thing[1], couple.other_steps)


def is_closed(couple, pairs):
    """Whether both answer alike at each of these pairs and come to one of them."""
    known = {pair: True for pair in pairs}
    for pair in pairs:
        if not all([is_alike and behind in known for _, is_alike, behind in both_at(couple, pair)]):
            return False
    return len(known) == len(pairs) and couple.first in known


def lets_pairs(one, other, thing):
    """Whether this is a closed table of pairs of stands, by which two makes are alike."""
    couple = Couple(one, other)
    if not isinstance(thing, list) or not all([is_pair(pair, couple) for pair in thing]):
        return False
    return is_closed(couple, thing)


def is_heard(thing):
    """Whether this is a letter that a make may hear."""
    return is_tuple_of(thing, 2, 2) and is_word(thing[0]) and is_byte(thing[1])


def parts_them(one, other, thing):
    """Whether these are letters at the last of which, and not ahead, two makes answer unlike."""
    look_at_make(one)
    look_at_make(other)
    if not isinstance(thing, list) or not thing or not all([is_heard(letter) for letter in thing]):
        return False
    told = answers(one, thing)
    other_told = answers(other, thing)
    return told[:-1] == other_told[:-1] and told[-1] != other_told[-1]
