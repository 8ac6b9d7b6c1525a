"""Rooms that hear of one plant: what each keeps, rows put together, and the letters that they send."""

from forgetwhen.checks import is_below, is_integer, is_lot_below, is_row_of, is_within
from forgetwhen.errors import (
    InvalidIndex, InvalidItems, InvalidKind, InvalidLetter, InvalidMoment, InvalidRoom, InvalidSize, Refused,
)
from forgetwhen.gaps import Gaps
from forgetwhen.machines import need_machine, need_word, then
from forgetwhen.needed import gap_moments, need_paper
from forgetwhen.rows import empty_row, is_marked_row, needed_row, row_behind_news, row_in_tuples, state_of_row
from forgetwhen.stories import MOMENTS, need_moment, need_story

MOST_ROOMS = 6


def kinds_of(machine):
    """All kinds: among rooms each of them is late."""
    return tuple(range(len(machine[0])))


def are_told(machine, row, moments):
    """Whether any two values are a row and the ascending moments of its marks."""
    if not is_marked_row(machine, row):
        return False
    many = len(row[1])
    return is_row_of(moments, many) and is_lot_below(moments, MOMENTS)


def need_told_row(machine, value):
    """The pair of a row and the moments of its marks, in tuples."""
    if not (is_row_of(value, 2) and are_told(machine, value[0], value[1])):
        raise InvalidItems(-1)
    return (row_in_tuples(value[0]), tuple(value[1]))


def own_row(machine, news):
    """The told row of news that one room has heard."""
    machine = need_machine(machine)
    late = kinds_of(machine)
    news = sorted(need_story(machine, late, news))
    gaps = Gaps(machine, late)
    same = empty_row(machine)[0][0]
    row, kept = needed_row(gaps, ((same,) * (len(news) + 1), tuple(kind for _, kind in news)))
    return (row, tuple(news[place][0] for place in kept))


def row_of_both(machine, one, other):
    """Two told rows as one, with all marks of both."""
    marks = []
    for (maps, kinds), moments in (one, other):
        for place, moment in enumerate(moments):
            marks.append((moment, kinds[place], maps[place + 1]))
    marks = sorted(marks)
    for mark, following in zip(marks, marks[1:]):
        if mark[0] == following[0]:
            raise Refused(mark[0])
    first = then(one[0][0][0], other[0][0][0])
    row = ((first, *[behind for _, _, behind in marks]), tuple(kind for _, kind, _ in marks))
    return row, [moment for moment, _, _ in marks]


def joined(gaps, machine, one, other):
    """Two told rows put together, of things that were looked at."""
    whole, moments = row_of_both(machine, one, other)
    row, kept = needed_row(gaps, whole)
    return (row, tuple(moments[place] for place in kept))


def join_rows(machine, one, other):
    """Two told rows of unlike news put together."""
    machine = need_machine(machine)
    one = need_told_row(machine, one)
    other = need_told_row(machine, other)
    return joined(Gaps(machine, kinds_of(machine)), machine, one, other)


def whole_reading(machine, told_row):
    """What is shown behind a told row."""
    machine = need_machine(machine)
    row, _ = need_told_row(machine, told_row)
    return machine[1][state_of_row(machine[0], row)]


def parting_rooms(machine, word, place):
    """News, and two rows of another room's, by which a room is deceived that forgets the news at a place.

    None if these news are free.
    """
    machine = need_machine(machine)
    word = need_word(machine, word)
    if not is_below(place, len(word)):
        raise InvalidIndex(-1)
    paper = need_paper(machine, kinds_of(machine), word, place)
    if paper[0] == "free":
        return None
    _, ahead, kind, behind, tail = paper
    moments, put, below, above, last = gap_moments(list(enumerate(word)), place, ahead + behind)
    news = tuple((moments[at], own) for at, own in enumerate(word))
    on_end = [(last + at, own) for at, own in enumerate(tail)]
    one, other = [tuple(sorted([*put, (moment, kind), *on_end])) for moment in (below, above)]
    return (news, one, other)


def need_rooms(many):
    if not is_within(many, 1, MOST_ROOMS):
        raise InvalidSize("rooms")
    return many


def is_told_triple(machine, value):
    """Whether any value is a number of news with a row and its marks' moments."""
    if not is_row_of(value, 3):
        return False
    number, row, moments = value
    return is_integer(number) and number >= 0 and are_told(machine, row, moments)


def need_letter(machine, many, value):
    """The letter among so many rooms, in tuples."""
    machine = need_machine(machine)
    need_rooms(many)
    if not is_row_of(value, many):
        raise InvalidLetter(-1)
    for at, triple in enumerate(value):
        if not is_told_triple(machine, triple):
            raise InvalidLetter(at)
    return tuple((number, row_in_tuples(row), tuple(moments)) for number, row, moments in value)


class Rooms:
    """Rooms that hear news of one plant, no two the same, and send one another letters."""

    def __init__(self, machine, many):
        self.machine = need_machine(machine)
        self.many = need_rooms(many)
        self.gaps = Gaps(self.machine, kinds_of(self.machine))
        nothing = (0, empty_row(self.machine), ())
        self.told = [[nothing] * many for _ in range(many)]

    def need_room(self, room):
        if not is_below(room, self.many):
            raise InvalidRoom(-1)
        return room

    def hear(self, room, moment, kind):
        """News that come to one room."""
        self.need_room(room)
        need_moment(moment)
        if not is_below(kind, len(self.machine[0])):
            raise InvalidKind(-1)
        number, row, moments = self.told[room][room]
        if moment in moments:
            raise InvalidMoment(-1)
        place = len([mark for mark in moments if mark < moment])
        row, kept = row_behind_news(self.gaps, row, place, kind)
        moments = (*moments[:place], moment, *moments[place:])
        self.told[room][room] = (number + 1, row, tuple(moments[at] for at in kept))

    def letter(self, room):
        """What a room knows: for each room how many of its news, and their told row."""
        return tuple(self.told[self.need_room(room)])

    def take(self, room, letter):
        """A letter that comes to a room: whoever tells of more news is believed."""
        self.need_room(room)
        letter = need_letter(self.machine, self.many, letter)
        own = self.told[room]
        self.told[room] = [come if come[0] > kept[0] else kept for kept, come in zip(own, letter)]

    def known(self, room):
        """How many news of each room are known in a room."""
        return tuple(number for number, _, _ in self.told[self.need_room(room)])

    def joined_row(self, room):
        """All told rows that a room knows, put together."""
        self.need_room(room)
        whole = (empty_row(self.machine), ())
        for _, row, moments in self.told[room]:
            whole = joined(self.gaps, self.machine, whole, (row, moments))
        return whole

    def shown(self, room):
        """The reading in a room."""
        row, _ = self.joined_row(room)
        return self.machine[1][state_of_row(self.machine[0], row)]
