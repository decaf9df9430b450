"""Streams put together of pieces, with what is lacking and what is against one another."""

from letterbench.errors import NoPiece
from letterbench.forms import is_tuple_of
from letterbench.numbers import is_bytes, is_whole

RULES = ("first", "later")
MOST_PLACES = 400


def is_piece(thing):
    """Whether this is a piece of a stream."""
    if not is_tuple_of(thing, 3, 3):
        return False
    place, some, last = thing
    if not is_whole(place) or place < 0 or not is_bytes(some) or not isinstance(last, bool):
        return False
    return place + len(some) <= MOST_PLACES


def look_at_pieces(thing):
    """Refuses what is no list of pieces."""
    if not isinstance(thing, list):
        raise NoPiece(None)
    for number, piece in enumerate(thing):
        if not is_piece(piece):
            raise NoPiece(number)


def end_of_piece(piece):
    """Where a piece ends."""
    return piece[0] + len(piece[1])


def standing(numbers, rule):
    """The number of the piece that stands, of several in the order in which they came."""
    if rule == "first":
        return numbers[0]
    return numbers[-1]


def holders_of(pieces):
    """The numbers of the pieces that have a byte, by its place, places rising."""
    holders = {}
    for number, (place, some, _) in enumerate(pieces):
        for at in range(place, place + len(some)):
            holders.setdefault(at, []).append(number)
    return {at: holders[at] for at in sorted(holders)}


def stretches(places):
    """Rising places told as tuples (begin, end), as great as can be."""
    told = []
    for place in places:
        if told and told[-1][1] == place:
            told[-1] = (told[-1][0], place + 1)
        else:
            told.append((place, place + 1))
    return told


def gaps_of(holders, end):
    """What no piece has, ahead of the last run and up to the end."""
    behind = max([place + 1 for place in holders], default=0)
    if end is not None and end > behind:
        behind = end
    return stretches([place for place in range(behind) if place not in holders])


def byte_of(piece, place):
    """The byte that a piece has at a place of the stream."""
    return piece[1][place - piece[0]]


def bytes_against(pieces, holders):
    """The bytes in which pieces are unlike, each with the numbers of all pieces that have it."""
    against = []
    for place, numbers in holders.items():
        first = byte_of(pieces[numbers[0]], place)
        if any([byte_of(pieces[number], place) != first for number in numbers]):
            against.append((place, tuple(numbers)))
    return against


def end_against(pieces, tellers, end):
    """The pieces that tell unlike ends, or have bytes behind the end, with all that tell one; none where all agree."""
    beyond = [number for number, piece in enumerate(pieces) if piece[1] and end_of_piece(piece) > end]
    if not beyond and all([end_of_piece(pieces[number]) == end for number in tellers]):
        return []
    return [("end", tuple(sorted(set(tellers + beyond))))]


def told_of(pieces, rule):
    """What is told of pieces put together."""
    holders = holders_of(pieces)
    tellers = [number for number, piece in enumerate(pieces) if piece[2]]
    against = bytes_against(pieces, holders)
    end = None
    if tellers:
        end = end_of_piece(pieces[standing(tellers, rule)])
        against.extend(end_against(pieces, tellers, end))
    runs = []
    sources = []
    for begin, behind in stretches(holders):
        stand = [standing(holders[place], rule) for place in range(begin, behind)]
        some = tuple([byte_of(pieces[number], place) for place, number in enumerate(stand, start=begin)])
        runs.append((begin, some))
        sources.append(stand)
    return {"runs": runs, "gaps": gaps_of(holders, end), "end": end, "against": against, "sources": sources}


class Stream:
    """A stream that is put together of pieces as they come."""

    def __init__(self, *, rule="first"):
        self._rule = rule
        self._pieces = []

    def take(self, pieces):
        """Takes a portion of pieces, all of them or, where it is refused, none."""
        look_at_pieces(pieces)
        self._pieces.extend(list(pieces))

    def told(self):
        """What is told of all pieces that came."""
        return told_of(self._pieces, self._rule)

    def pieces(self):
        """All pieces, in the order in which they came."""
        return list(self._pieces)

    def rule(self):
        """The rule by which pieces stand."""
        return self._rule

    def twin(self):
        """A stream like this one that goes on by itself."""
        twin = Stream(rule=self._rule)
        twin.take(self._pieces)
        return twin

    def __len__(self):
        return len(self._pieces)

    def __eq__(self, other):
        return isinstance(other, Stream) and self._rule == other._rule and self._pieces == other._pieces


def together(pieces, *, rule="first"):
    """What is told of pieces put together."""
    look_at_pieces(pieces)
    return told_of(pieces, rule)


def places_of_lot(holders, begin, behind):
    """The places that only pieces of these numbers have."""
    return [place for place, numbers in holders.items() if begin <= numbers[0] and numbers[-1] < behind]


def of_two(one, other, *, rule="first"):
    """What is told of two lots of pieces put together, and which bytes only one of them has."""
    look_at_pieces(one)
    look_at_pieces(other)
    pieces = one + other
    told = told_of(pieces, rule)
    holders = holders_of(pieces)
    told["first"] = stretches(places_of_lot(holders, 0, len(one)))
    told["second"] = stretches(places_of_lot(holders, len(one), len(pieces)))
    return told
