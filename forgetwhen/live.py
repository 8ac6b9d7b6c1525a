"""A room by hand: deeds that are done, taken back, done again, or thought otherwise."""

from forgetwhen.checks import is_below
from forgetwhen.errors import InvalidDeed, InvalidIndex
from forgetwhen.machines import state_behind
from forgetwhen.room import Room
from forgetwhen.stories import need_moment
from forgetwhen.withdrawn import MOST_DEEDS, Standing, news_standing, readings_of_deeds


class Live:
    """A room, and the deeds that were done in it and not taken back."""

    def __init__(self, machine, late, gone):
        self.room = Room(machine, late, gone)
        self.deeds = ()
        self.undone = ()

    def standing_behind(self, deeds):
        """What stands behind deeds that fit."""
        standing = Standing(self.room.machine, self.room.late, self.room.gone)
        for deed in deeds:
            standing.take(deed)
        return standing

    def do_deed(self, deed):
        """Does a deed: (reading shown, how many marks are kept)."""
        if len(self.deeds) == MOST_DEEDS or not self.standing_behind(self.deeds).does_fit(deed):
            raise InvalidDeed(-1)
        self.deeds = (*self.deeds, tuple(deed))
        self.undone = ()
        return (self.room.take(deed), len(self.room.kept()))

    def undo_deed(self):
        """Takes back the last deed; whether there was one."""
        if not self.deeds:
            return False
        self.undone = (*self.undone, self.deeds[-1])
        self.deeds = self.deeds[:-1]
        # A room forgets, so what it was like before is told by the deeds alone.
        self.room = Room(self.room.machine, self.room.late, self.room.gone)
        for deed in self.deeds:
            self.room.take(deed)
        return True

    def redo_deed(self):
        """Does again the deed taken back last; whether there was one."""
        if not self.undone:
            return False
        deed = self.undone[-1]
        self.undone = self.undone[:-1]
        self.deeds = (*self.deeds, deed)
        self.room.take(deed)
        return True

    def standing(self):
        """The news that stand, by moments."""
        return news_standing(self.deeds)

    def shown_at(self, moment):
        """The reading that the standing news up to a moment lead to."""
        need_moment(moment)
        maps, readings = self.room.machine
        return readings[state_behind(maps, 0, [kind for heard, kind in self.standing() if heard <= moment])]

    def shown_behind(self, deeds):
        """What is right to be shown behind deeds that fit."""
        return readings_of_deeds(self.room.machine, deeds)[-1]

    def shown_then(self, number):
        """What was shown behind so many deeds."""
        if not is_below(number, len(self.deeds) + 1):
            raise InvalidIndex(-1)
        return self.shown_behind(self.deeds[:number])

    def shown_if(self, number, deed):
        """(how many deeds could be done, what would be shown) if the deed of a number had been this one."""
        if not is_below(number, len(self.deeds)):
            raise InvalidIndex(-1)
        standing = self.standing_behind(self.deeds[:number])
        many = number
        thought = (*self.deeds[:number], deed, *self.deeds[number + 1:])
        while many < len(thought) and standing.does_fit(thought[many]):
            standing.take(thought[many])
            many += 1
        return (many, self.shown_behind(thought[:many]))
