"""Kinds that come so late at most, what is needed of their news, and the twin that keeps a window of marks."""

from forgetwhen.checks import is_row_of, is_row_within, is_within
from forgetwhen.errors import InvalidKind, InvalidLateness, InvalidMoment, InvalidStory
from forgetwhen.machines import need_kind, need_machine, need_word, same_map
from forgetwhen.needed import ways_of
from forgetwhen.rows import empty_row, row_of_kept, row_with, state_of_row
from forgetwhen.stories import MOST_NEWS, is_news, need_moment
from forgetwhen.told import ToldGaps, greatest_told, kinds_with_behind, most_told, relations_by_behind
from forgetwhen.ways import marks_of

MOST_LATE = 12


def need_lateness(machine, value):
    """For each kind how many news it may come behind: None or a number up to 12."""
    machine = need_machine(machine)
    if not is_row_of(value, len(machine[0])):
        raise InvalidLateness(-1)
    for kind, number in enumerate(value):
        if number is not None and not is_within(number, 0, MOST_LATE):
            raise InvalidLateness(kind)
    return tuple(value)


def window(machine, lateness):
    """The greatest number told, 0 if there is none."""
    return greatest_told(need_lateness(machine, lateness))


def gap_kinds(machine, lateness, behind):
    """The kinds that may still be put in with so many news behind them."""
    return kinds_with_behind(need_lateness(machine, lateness), behind)


def is_in_time(lateness, kind, later):
    """Whether news of a kind may still come where so many are later."""
    return lateness[kind] is None or later <= lateness[kind]


def need_told(machine, lateness, value):
    """The told story, in tuples."""
    machine = need_machine(machine)
    lateness = need_lateness(machine, lateness)
    if not is_row_within(value, 0, MOST_NEWS):
        raise InvalidStory(-1)
    story = []
    for at, news in enumerate(value):
        if not is_news(machine, news):
            raise InvalidStory(at)
        moment, kind = news
        later = [heard for heard, _ in story if heard >= moment]
        if moment in later or not is_in_time(lateness, kind, len(later)):
            raise InvalidStory(at)
        story.append((moment, kind))
    return tuple(story)


def need_told_record(machine, lateness, word):
    machine = need_machine(machine)
    lateness = need_lateness(machine, lateness)
    word = need_word(machine, word)
    return ToldGaps(machine, lateness), same_map(machine), ways_of(machine, word)


def told_sets(machine, lateness, word):
    """For each gap the states that the begin comes to by what is ahead, with what may still be put in."""
    gaps, same, ways = need_told_record(machine, lateness, word)
    return gaps.sets_along(same, ways)


def told_relations(machine, lateness, word):
    """For each gap the classes of states that nothing which may still come parts."""
    gaps, _, ways = need_told_record(machine, lateness, word)
    return gaps.relations_along(ways)


def told_needed(machine, lateness, word):
    """The places of the needed news of a record, ascending."""
    gaps, same, ways = need_told_record(machine, lateness, word)
    return gaps.needed_along(same, ways)


class WindowTwin:
    """A twin that keeps the last news, as many as the window, and of all others the needed ones."""

    def __init__(self, machine, lateness):
        self.machine = need_machine(machine)
        self.lateness = need_lateness(self.machine, lateness)
        self.gaps = ToldGaps(self.machine, self.lateness)
        self.held = empty_row(self.machine)
        self.moments = ()

    def hear(self, moment, kind):
        """News that come into the room."""
        if need_moment(moment) in self.moments:
            raise InvalidMoment(-1)
        place = len([mark for mark in self.moments if mark < moment])
        need_kind(self.machine, kind)
        if not is_in_time(self.lateness, kind, len(self.moments) - place):
            raise InvalidKind(-1)
        row = row_with(self.held, place, kind)
        kept = self.gaps.kept_of_row(row)
        moments = (*self.moments[:place], moment, *self.moments[place:])
        self.held = row_of_kept(self.machine[0], row, kept)
        self.moments = tuple(moments[number] for number in kept)

    def marks(self):
        """The moments that are kept, ascending."""
        return self.moments

    def reading(self):
        """What is shown."""
        return self.machine[1][state_of_row(self.machine[0], self.held)]


def told_marks(machine, lateness):
    """(least, most): the most needed news of a record, and the most needed and last ones; None if there are none."""
    machine = need_machine(machine)
    lateness = need_lateness(machine, lateness)
    gaps = ToldGaps(machine, lateness)
    # There are greatest numbers exactly if there are for the kinds that may come however late.
    if marks_of(machine, kinds_with_behind(lateness, gaps.beyond)) is None:
        return None
    rows = relations_by_behind(gaps)
    return (most_told(gaps, rows, False), most_told(gaps, rows, True))
