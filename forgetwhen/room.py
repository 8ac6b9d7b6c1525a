"""A room: a twin in use, asked what it shows, and what it would show if late news came."""

from forgetwhen.checks import is_below, is_integer
from forgetwhen.errors import InvalidDeed, InvalidKind, InvalidReadings
from forgetwhen.gaps import Gaps
from forgetwhen.machines import READINGS
from forgetwhen.rows import row_with, state_of_row, ways_of_row
from forgetwhen.withdrawn import WithdrawnTwin, is_deed


class Room:
    """A twin that takes in news, and that news are withdrawn. It keeps nothing but the marks and the last moment."""

    def __init__(self, machine, late, gone):
        self.twin = WithdrawnTwin(machine, late, gone)
        self.machine = self.twin.machine
        self.late = self.twin.late
        self.gone = self.twin.gone
        self.last = -1

    def take(self, deed):
        """News that come, or are withdrawn; what is shown then."""
        if not is_deed(self.machine, deed):
            raise InvalidDeed(-1)
        moment, kind, done = deed
        kept = {mark: own for mark, own in self.kept()}
        if done == 1:
            if kind not in self.gone or moment > self.last or kept.get(moment, kind) != kind:
                raise InvalidDeed(-1)
            self.twin.withdraw(moment, kind)
        else:
            if moment in kept or (moment <= self.last and kind not in self.late):
                raise InvalidDeed(-1)
            self.twin.hear(moment, kind)
        self.last = max(self.last, moment)
        return self.shown()

    def shown(self):
        """The reading."""
        return self.twin.reading()

    def kept(self):
        """For each mark its moment and kind."""
        return tuple(zip(self.twin.marks(), self.twin.row()[1]))

    def reading_with(self, place, kind):
        """The reading if news of a kind came behind so many marks."""
        return self.machine[1][state_of_row(self.machine[0], row_with(self.twin.row(), place, kind))]

    def if_late(self, kind):
        """For each place among the marks the reading if late news of a kind came there."""
        if not is_integer(kind) or kind not in self.late:
            raise InvalidKind(-1)
        return tuple(self.reading_with(place, kind) for place in range(len(self.twin.marks()) + 1))

    def alarms(self, reading):
        """All (late kind, place among the marks) by which this reading would be shown."""
        if not is_below(reading, READINGS):
            raise InvalidReadings(-1)
        found = []
        for kind in self.late:
            for place, shown in enumerate(self.if_late(kind)):
                if shown == reading:
                    found.append((kind, place))
        return tuple(found)

    def may_show(self):
        """All readings that late news more, none or many, could lead to."""
        gaps = Gaps(self.machine, self.late)
        row = self.twin.row()
        sets = gaps.sets_along(gaps.states_behind((0,), row[0][0]), ways_of_row(self.machine[0], row))
        return tuple(sorted({self.machine[1][state] for state in sets[-1]}))
