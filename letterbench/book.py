"""A book that takes in caught letters in portions and keeps the last of them."""

from letterbench.accounts import Account
from letterbench.errors import NoNumber, NoSetting, Shut
from letterbench.numbers import MIXED_BEGIN, is_between, mixed_on
from letterbench.sheet import PARTS, look_at_lot, look_at_setting, sheet_of

MOST_ROOM = 200


def is_other_stream(one, other):
    """Whether the stream of a side, or where it ends, is another one."""
    return one.runs != other.runs or one.end != other.end


def what_turned(one, other, lot):
    """What has other things to go by under the other one of two settings."""
    account = Account(one, lot)
    other_account = Account(other, lot)
    senders = list(zip(account.senders, other_account.senders))
    told = []
    if one["lower"] != other["lower"]:
        told.append("reading")
    if one["rule"] != other["rule"] or any([before.sent != after.sent for before, after in senders]):
        told.append("streams")
    if one["upper"] != other["upper"] or any([is_other_stream(before, after) for before, after in senders]):
        told.append("upper")
    if one["ends"] != other["ends"] or account.catch != other_account.catch:
        told.append("talk")
    return told


class Book:
    """Caught letters, as many as there is room for, and the setting by which they are told of."""

    def __init__(self, setting, *, room=100):
        look_at_setting(setting)
        if not is_between(room, 1, MOST_ROOM):
            raise NoNumber("no number of letters that a book has room for")
        self._setting = {part: setting[part] for part in PARTS}
        self._room = room
        self._held = []
        self._many_gone = 0
        self._sum_gone = MIXED_BEGIN
        self._log = []
        self._is_shut = False

    def take(self, catches, *, watcher=None):
        """Takes in a portion, all of it or, where it is refused, nothing; a watcher is then told how many are held."""
        self._look_whether_shut()
        look_at_lot(catches)
        self._log.append("open")
        self._held.extend(list(catches))
        self._let_go()
        self._is_shut = True
        try:
            if watcher is not None:
                watcher(len(self._held))
        finally:
            self._is_shut = False
            self._log.append("shut")

    def _look_whether_shut(self):
        """Refuses what a watcher may not do."""
        if self._is_shut:
            raise Shut("a watcher is looking on")

    def _let_go(self):
        """Lets the eldest go for which there is no room."""
        many = max(0, len(self._held) - self._room)
        for _, _, some in self._held[:many]:
            self._sum_gone = mixed_on(self._sum_gone, some)
        self._many_gone += many
        self._held = self._held[many:]

    def turn(self, part, thing):
        """Turns a part of the setting to another thing, and tells what has other things to go by."""
        self._look_whether_shut()
        if part not in PARTS:
            raise NoSetting(None)
        setting = self.settings()
        setting[part] = thing
        look_at_setting(setting)
        told = what_turned(self._setting, setting, self._held)
        self._setting = setting
        return told

    def sheet(self):
        """The sheet of all that is held."""
        return sheet_of(self._setting, self._held)

    def held(self):
        """All catches that are held, the eldest first."""
        return list(self._held)

    def log(self):
        """When portions were opened and shut."""
        return list(self._log)

    def gone(self):
        """How many letters went, and the sum of their bytes."""
        return self._many_gone, self._sum_gone

    def settings(self):
        """The setting as it is now."""
        return dict(self._setting)

    def space(self):
        """For how many letters there is room in all."""
        return self._room

    def pieces_of_side(self, side):
        """The pieces that a side sent, in the order in which they are put together."""
        if not is_between(side, 0, 1):
            raise NoNumber("no side")
        return list(Account(self._setting, self._held).senders[side].sent)

    def twin(self):
        """A book like this one that goes on by itself."""
        twin = Book(self._setting, room=self._room)
        twin._held = self.held()
        twin._many_gone = self._many_gone
        twin._sum_gone = self._sum_gone
        twin._log = self.log()
        return twin

    def __len__(self):
        return len(self._held)

    def __eq__(self, other):
        return (
            isinstance(other, Book)
            and self._setting == other._setting
            and self._room == other._room
            and self._held == other._held
            and self._many_gone == other._many_gone
            and self._sum_gone == other._sum_gone
        )
