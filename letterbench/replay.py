"""Replays of talks: one side is played anew, by the relations that hold in the talk, against whatever is heard."""

from letterbench.ends import MOST_CAUGHT
from letterbench.errors import Away, Bare, NoCatch, NoLetter, NoNumber, NoRelation
from letterbench.forms import is_tuple_of
from letterbench.numbers import is_between, is_whole, is_word
from letterbench.relations import giving, holds


def are_fields(thing):
    """Whether this is a dict from words to whole numbers."""
    return isinstance(thing, dict) and all([is_word(word) and is_whole(thing[word]) for word in thing])


def is_letter(thing):
    """Whether this is a letter of a talk."""
    return is_tuple_of(thing, 2, 2) and is_between(thing[0], 0, 1) and are_fields(thing[1])


def look_at_talk(thing):
    """Refuses what is no talk."""
    if not isinstance(thing, list) or len(thing) > MOST_CAUGHT:
        raise NoCatch(None)
    for number, letter in enumerate(thing):
        if not is_letter(letter):
            raise NoCatch(number)


def look_at_relations(thing, talk):
    """Refuses what is no list of relations that hold in a talk; holds itself refuses what is no relation."""
    if not isinstance(thing, list):
        raise NoRelation("no list of relations")
    for relation in thing:
        if not holds(relation, talk):
            raise NoRelation("a relation that doesn't hold in this talk")


def copy_of(talk):
    """A talk like this one, with dicts of its own."""
    return [(side, dict(fields)) for side, fields in talk]


class Replay:
    """A caught talk of which one side is played."""

    def __init__(self, talk, relations, side):
        look_at_talk(talk)
        look_at_relations(relations, talk)
        if not is_between(side, 0, 1):
            raise NoNumber("no side")
        self._caught = copy_of(talk)
        self._relations = list(relations)
        self._side = side
        self._done = []
        self._whence = []

    def due(self):
        """What is due next: to say or to hear a letter, with its number, or nothing more."""
        number = len(self._done)
        if number == len(self._caught):
            return ("over",)
        if self._caught[number][0] == self._side:
            return ("says", number)
        return ("hears", number)

    def speak(self):
        """Says the next letter and tells its fields."""
        if self.due()[0] != "says":
            raise Bare("nothing is due to be said")
        number = len(self._done)
        _, caught = self._caught[number]
        said = {}
        whence = {}
        for word in sorted(caught):
            given = giving(self._relations, self._done + [(self._side, said)], (number, word))
            if given is None:
                said[word] = caught[word]
                whence[word] = ("caught",)
            else:
                said[word] = given[1]
                whence[word] = ("relation", given[0])
        self._done.append((self._side, said))
        self._whence.append(whence)
        return dict(said)

    def hear(self, fields, *, anyway=False):
        """Hears the next letter, which must be as the caught one and the relations want it, but anyway."""
        if self.due()[0] != "hears":
            raise Bare("nothing is due to be heard")
        number = len(self._done)
        if not are_fields(fields):
            raise NoLetter(number)
        letter = (1 - self._side, dict(fields))
        if not anyway:
            self._look_at_heard(number, letter)
        self._done.append(letter)
        self._whence.append({word: ("heard",) for word in fields})

    def _look_at_heard(self, number, letter):
        """Refuses a letter with other words than the caught one, or against a relation of one of its places."""
        if sorted(letter[1]) != sorted(self._caught[number][1]):
            raise Away(number, "fields")
        for relation in self._relations:
            if relation[1][0] == number and not holds(relation, self._done + [letter]):
                raise Away(number, relation)

    def talk(self):
        """What was said and heard."""
        return copy_of(self._done)

    def sources(self):
        """Whence each field of each letter that was said or heard came."""
        return [dict(whence) for whence in self._whence]

    def relations(self):
        """The relations by which it goes."""
        return list(self._relations)

    def twin(self):
        """A replay like this one that goes on by itself."""
        twin = Replay(self._caught, self._relations, self._side)
        twin._done = self.talk()
        twin._whence = self.sources()
        return twin

    def __len__(self):
        return len(self._done)

    def __eq__(self, other):
        return (
            isinstance(other, Replay)
            and self._caught == other._caught
            and self._relations == other._relations
            and self._side == other._side
            and self._done == other._done
        )


def replayed(talk, relations, side, answer):
    """The talk as it went against a def that tells what is heard, and where it went away, if it did."""
    replay = Replay(talk, relations, side)
    while replay.due()[0] != "over":
        if replay.due()[0] == "says":
            replay.speak()
        else:
            # What the def itself raises goes on, so it is called ahead of the try.
            fields = answer(replay.talk())
            try:
                replay.hear(fields)
            except Away as away:
                return replay.talk(), (away.number, away.what)
    return replay.talk(), None
