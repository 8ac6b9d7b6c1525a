"""News that are withdrawn: their stories, what is right then, and the twin that hears of it."""

from forgetwhen.checks import is_below, is_row, is_row_of, is_row_within
from forgetwhen.errors import InvalidGone, InvalidKind, InvalidLot, InvalidMoment, Refused
from forgetwhen.gaps import Gaps
from forgetwhen.least import least_machine
from forgetwhen.machines import map_of, need_kind, need_late, need_machine, then
from forgetwhen.maps import ring_of_powers
from forgetwhen.rows import empty_row, needed_row, row_behind_news, state_of_row
from forgetwhen.stories import MOMENTS, need_moment
from forgetwhen.timeline import Timeline
from forgetwhen.twins import is_kind_at
from forgetwhen.ways import marks_of

MOST_DEEDS = 2000


def need_gone(machine, value):
    """The kinds that may be withdrawn, ascending."""
    maps, _ = need_machine(machine)
    if not is_row(value):
        raise InvalidLot(-1)
    gone = []
    for at, kind in enumerate(value):
        if not is_below(kind, len(maps)) or kind in gone:
            raise InvalidLot(at)
        gone.append(kind)
    return tuple(sorted(gone))


def need_three(machine, late, gone):
    machine = need_machine(machine)
    late = need_late(machine, late)
    return machine, late, need_gone(machine, gone)


def is_deed(machine, value):
    """Whether any value is (moment, kind, 0 or 1)."""
    if not is_row_of(value, 3):
        return False
    moment, kind, done = value
    return is_below(moment, MOMENTS) and is_below(kind, len(machine[0])) and is_below(done, 2)


class Standing:
    """News as they are heard and withdrawn, as far as is wanted to tell which deed fits next."""

    def __init__(self, machine, late, gone):
        self.machine = machine
        self.late = late
        self.gone = gone
        self.heard = {}
        self.stands = {}
        self.greatest = -1

    def does_fit(self, deed):
        """Whether any value is a deed that may come next."""
        if not is_deed(self.machine, deed):
            return False
        moment, kind, done = deed
        if done == 1:
            return kind in self.gone and self.stands.get(moment) == kind
        return moment not in self.heard and (moment > self.greatest or kind in self.late)

    def take(self, deed):
        """A deed that fits."""
        moment, kind, done = deed
        if done == 1:
            del self.stands[moment]
        else:
            self.heard[moment] = True
            self.stands[moment] = kind
            self.greatest = max(self.greatest, moment)


def need_withdrawn(machine, late, gone, value):
    """The story with withdrawn news, in tuples."""
    machine, late, gone = need_three(machine, late, gone)
    if not is_row_within(value, 0, MOST_DEEDS):
        raise InvalidGone(-1)
    standing = Standing(machine, late, gone)
    for at, deed in enumerate(value):
        if not standing.does_fit(deed):
            raise InvalidGone(at)
        standing.take(deed)
    return tuple(tuple(deed) for deed in value)


def standing_news(machine, late, gone, story):
    """The news that stand at the end of a story, by moments."""
    machine, late, gone = need_three(machine, late, gone)
    return news_standing(need_withdrawn(machine, late, gone, story))


def news_standing(story):
    """The same, of a story that was looked at."""
    stands = {}
    for moment, kind, done in story:
        if done == 1:
            del stands[moment]
        else:
            stands[moment] = kind
    return tuple(sorted(stands.items()))


def withdrawn_readings(machine, late, gone, story):
    """What is right to be shown behind each beginning of a story."""
    machine, late, gone = need_three(machine, late, gone)
    return readings_of_deeds(machine, need_withdrawn(machine, late, gone, story))


def readings_of_deeds(machine, story):
    """The same, of a story that was looked at."""
    line = Timeline(machine)
    readings = [machine[1][0]]
    for moment, kind, done in story:
        if done == 1:
            line.strike_out(moment)
        else:
            line.put_in(moment, kind)
        readings.append(machine[1][line.state_now()])
    return tuple(readings)


def back_word(machine, kind):
    """The shortest word of a kind alone that undoes the kind in the least machine, or None."""
    machine = need_machine(machine)
    return back_of(machine, need_kind(machine, kind))


def back_of(machine, kind):
    """The same, of things that were looked at."""
    lead, turn = ring_of_powers(least_machine(machine)[0][kind])
    return None if lead > 0 else (kind,) * (turn - 1)


def first_without_back(machine, gone):
    """The least kind that can't be undone, or None."""
    for kind in gone:
        if back_of(machine, kind) is None:
            return kind
    return None


def both_lots(late, gone):
    return tuple(sorted(set(late + gone)))


def withdrawn_marks(machine, late, gone):
    """How many marks are needed if news may be withdrawn, or None."""
    machine, late, gone = need_three(machine, late, gone)
    if first_without_back(machine, gone) is not None:
        return None
    return marks_of(machine, both_lots(late, gone))


class WithdrawnTwin:
    """A twin that keeps the needed news of those that stand, and hears of news that are withdrawn."""

    def __init__(self, machine, late, gone):
        self.machine, self.late, self.gone = need_three(machine, late, gone)
        fixed = first_without_back(self.machine, self.gone)
        if fixed is not None:
            raise Refused(fixed)
        self.backs = {kind: map_of(self.machine, back_of(self.machine, kind)) for kind in self.gone}
        self.gaps = Gaps(self.machine, both_lots(self.late, self.gone))
        self.held = empty_row(self.machine)
        self.moments = ()

    def place_of(self, moment):
        """How many marks are below a moment."""
        return len([mark for mark in self.moments if mark < moment])

    def hear(self, moment, kind):
        """News that come into the room."""
        if need_moment(moment) in self.moments:
            raise InvalidMoment(-1)
        place = self.place_of(moment)
        if not is_kind_at(self.machine, self.late, kind, place == len(self.moments)):
            raise InvalidKind(-1)
        self.held, kept = row_behind_news(self.gaps, self.held, place, kind)
        moments = (*self.moments[:place], moment, *self.moments[place:])
        self.moments = tuple(moments[number] for number in kept)

    def withdraw(self, moment, kind):
        """Heard news that stand are withdrawn."""
        need_moment(moment)
        if kind not in self.gone or not is_below(kind, len(self.machine[0])):
            raise InvalidKind(-1)
        place = self.place_of(moment)
        if moment not in self.moments:
            self.keep(row_with_map(self.held, place, self.backs[kind]), self.moments)
        elif self.held[1][place] == kind:
            self.keep(row_without(self.held, place), (*self.moments[:place], *self.moments[place + 1:]))
        else:
            raise InvalidMoment(-1)

    def keep(self, row, moments):
        """The needed marks of a row stay."""
        self.held, kept = needed_row(self.gaps, row)
        self.moments = tuple(moments[number] for number in kept)

    def marks(self):
        """The moments that are kept, ascending."""
        return self.moments

    def row(self):
        return self.held

    def reading(self):
        """What is shown."""
        return self.machine[1][state_of_row(self.machine[0], self.held)]


def row_with_map(row, place, one):
    """The row with a map more at the end of the gap behind so many marks."""
    maps, kinds = row
    return ((*maps[:place], then(maps[place], one), *maps[place + 1:]), kinds)


def row_without(row, place):
    """The row without a mark, as if its news had never come."""
    maps, kinds = row
    both = then(maps[place], maps[place + 1])
    return ((*maps[:place], both, *maps[place + 2:]), (*kinds[:place], *kinds[place + 1:]))
