"""What is told of a whole lot: each side's stream and upper letters, and the talk's catch with its steps."""

from letterbench.ends import MOST_CAUGHT
from letterbench.grammars import field_called, table_of
from letterbench.reading import is_good, read_letter
from letterbench.streams import together
from letterbench.talks import sureness
from letterbench.upper import pieces_of, thing_at, upper_of


class Sender:
    """What one side sent.

    Carried is, in the order in which they are put together, by which letter each piece came, where in it the piece
    begins, and the piece; uppers are the whole upper letters, (begin, end, spreads) each. By places of the stream
    standing tells which piece stands, spots which upper letter and which spread of it lie there.
    """

    def __init__(self, setting, carried):
        self.carried = carried
        self.sent = [piece for _, _, piece in carried]
        stream = together(self.sent, rule=setting["rule"])
        self.runs = stream["runs"]
        self.end = stream["end"]
        self.uppers, _ = upper_of(setting["upper"], self.runs, end=self.end)
        self.standing = standing_in(self.runs, stream["sources"])
        self.spots = spots_in(self.uppers)


def standing_in(runs, sources):
    """By places the number of the piece that stands there."""
    standing = {}
    for (begin, _), numbers in zip(runs, sources):
        for place, number in enumerate(numbers, start=begin):
            standing[place] = number
    return standing


def spots_in(uppers):
    """By places the number of the upper letter and that of its spread which lie there."""
    spots = {}
    for number, (start, _, spreads) in enumerate(uppers):
        for at, (begin, end, _, _, _) in enumerate(spreads):
            for place in range(start + begin, start + end):
                spots[place] = (number, at)
    return spots


class Account:
    """What is told of a lot by a setting: both senders, the talk's catch, and the step and word of each upper letter.

    Steps are a dict from a side and the number of its upper letter to the number of its step and this one's word.
    """

    def __init__(self, setting, lot):
        self.senders = senders_of(setting, lot)
        caught = uppers_caught(self.senders)[:MOST_CAUGHT]
        self.catch = [(side, sort_of(setting, self.senders[side], number)) for side, number in caught]
        words = sureness(setting["ends"], self.catch)
        self.steps = {which: (number, words[number]) for number, which in enumerate(caught)}


def senders_of(setting, lot):
    """Both sides: of each the pieces caught at tap 0, then those caught at tap 1."""
    pieces = pieces_of(setting["lower"], setting["carrying"], [some for _, _, some in lot])
    senders = []
    for side in range(2):
        carried = [one for tap in range(2) for one in pieces if lot[one[0]][:2] == (tap, side)]
        senders.append(Sender(setting, carried))
    return senders


def letter_by(sender, end):
    """The last of the letters by whose pieces a side's stream stands from 0 to an end."""
    return max([sender.carried[sender.standing[place]][0] for place in range(end)])


def uppers_caught(senders):
    """The whole upper letters of both sides, (side, number) each, as they were caught."""
    caught = []
    for side, sender in enumerate(senders):
        for number, (_, end, _) in enumerate(sender.uppers):
            caught.append((letter_by(sender, end), side, number))
    return [(side, number) for _, side, number in sorted(caught)]


def sort_of(setting, sender, number):
    """The sort of an upper letter."""
    begin, end, _ = sender.uppers[number]
    spreads, worths = read_letter(setting["upper"], sender.runs[0][1][begin:end], None)
    path = setting["sort"]
    thing = thing_at(setting["upper"], worths, path[:-1])
    if not is_good(spreads) or thing is None:
        return "none"
    kind, inner = thing
    field = field_called(table_of(setting["upper"]), kind, path[-1])
    if field is None or field[0] != "choice" or path[-1] not in inner:
        return "none"
    return inner[path[-1]][0]
