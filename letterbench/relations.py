"""Relations between the fields of a talk's letters: looked at, found in talks, and what they give."""

from letterbench.errors import NoRelation
from letterbench.forms import is_tuple_of
from letterbench.numbers import is_whole, is_word


def is_place(thing):
    """Whether this is the place of a field: the number of its letter and its word."""
    return is_tuple_of(thing, 2, 2) and is_whole(thing[0]) and thing[0] >= 0 and is_word(thing[1])


def is_relation(thing):
    """Whether this is a relation."""
    if not is_tuple_of(thing, 4, 4) or not is_place(thing[1]) or not is_whole(thing[3]):
        return False
    word, place, other, much = thing
    if word == "told":
        return other is None
    if not is_place(other) or not other < place:
        return False
    return (word == "same" and much == 0) or (word == "more" and much != 0)


def worth_in(talk, place):
    """The worth of the field at a place of a talk; None where it isn't there."""
    number, word = place
    if number >= len(talk):
        return None
    _, fields = talk[number]
    return fields.get(word)


def worth_given(relation, talk):
    """The worth that a relation gives to its place; None where the other one isn't there."""
    _, _, other, much = relation
    if other is None:
        return much
    worth = worth_in(talk, other)
    if worth is None:
        return None
    return worth + much


def holds(relation, talk):
    """Whether a relation holds in a talk."""
    if not is_relation(relation):
        raise NoRelation("no relation")
    worth = worth_in(talk, relation[1])
    given = worth_given(relation, talk)
    return worth is None or given is None or worth == given


def places_in_talks(talks):
    """The places that are in some of these talks, sorted."""
    places = {}
    for talk in talks:
        for number, (_, fields) in enumerate(talk):
            for word in fields:
                places[(number, word)] = True
    return sorted(places)


def unlike_by(worths, others):
    """By how much worths are more than others, where that is the same of all; else None."""
    if None in others:
        return None
    much = worths[0] - others[0]
    if all([worth - other == much for worth, other in zip(worths, others)]):
        return much
    return None


def relation_of(place, lesser, talks):
    """The relation found of a place, by itself or by the first of the lesser places; None where there is none."""
    having = [talk for talk in talks if worth_in(talk, place) is not None]
    worths = [worth_in(talk, place) for talk in having]
    if all([worth == worths[0] for worth in worths]):
        return ("told", place, None, worths[0])
    for other in lesser:
        much = unlike_by(worths, [worth_in(talk, other) for talk in having])
        if much is not None:
            return ("more" if much != 0 else "same", place, other, much)
    return None


def found_in(talks):
    """The relations that hold in all of these talks, one of each place that has some."""
    places = places_in_talks(talks)
    found = [relation_of(place, places[:number], talks) for number, place in enumerate(places)]
    return [relation for relation in found if relation is not None]


def giving(relations, talk, place):
    """The first of these relations that can give a worth to a place: its number, and the worth; None where none can."""
    for number, relation in enumerate(relations):
        if relation[1] == place:
            worth = worth_given(relation, talk)
            if worth is not None:
                return number, worth
    return None


def worth_by(relations, talk, place):
    """The worth that the first of these relations that can gives to a place, by a talk's letters ahead; else None."""
    given = giving(relations, talk, place)
    if given is None:
        return None
    return given[1]
