"""Rows of needed marks, whether two of them tell the same, and the least twin, which keeps such a row."""

from forgetwhen.checks import all_below, is_below, is_tuple_of
from forgetwhen.errors import InvalidIndex, InvalidKind, InvalidMoment, Refused
from forgetwhen.gaps import Gaps
from forgetwhen.least import parting_word_of
from forgetwhen.machines import map_of, need_late, need_machine, need_word, state_behind
from forgetwhen.needed import are_late_words, needed_of
from forgetwhen.rows import (
    empty_row, form_of_row, need_row, needed_of_row, row_behind_news, row_of_kept, state_of_row, ways_of_row,
)
from forgetwhen.search import search, word_to
from forgetwhen.stories import need_moment


def first_row(machine):
    """The row without marks."""
    return empty_row(need_machine(machine))


def record_row(machine, late, word):
    """The row of a record: its needed news as marks, maps of what lies between."""
    machine = need_machine(machine)
    late = need_late(machine, late)
    word = need_word(machine, word)
    same = map_of(machine, ())
    return row_of_kept(machine[0], ((same,) * (len(word) + 1), word), needed_of(machine, late, word))


def row_needed(machine, late, row):
    """The places of a row's needed marks, ascending."""
    machine = need_machine(machine)
    late = need_late(machine, late)
    return needed_of_row(Gaps(machine, late), need_row(machine, row))


def is_kind_at(machine, late, value, is_last):
    """Whether any value is a kind of which news may come there: a prompt one at the last place alone."""
    return is_below(value, len(machine[0])) and (is_last or value in late)


def row_step(machine, late, row, place, kind):
    """(row, kept): the row with news more, and which of its marks and the new one stay."""
    machine = need_machine(machine)
    late = need_late(machine, late)
    row = need_row(machine, row)
    many = len(row[1])
    if not is_below(place, many + 1):
        raise InvalidIndex(-1)
    if not is_kind_at(machine, late, kind, place == many):
        raise InvalidKind(-1)
    return row_behind_news(Gaps(machine, late), row, place, kind)


def row_state(machine, row):
    """The state behind a row."""
    machine = need_machine(machine)
    return state_of_row(machine[0], need_row(machine, row))


def row_reading(machine, row):
    """What is shown behind a row."""
    machine = need_machine(machine)
    return machine[1][row_state(machine, row)]


def row_form(machine, late, row):
    """(layers, ends): equal for rows that tell the same, whatever comes."""
    machine = need_machine(machine)
    late = need_late(machine, late)
    return form_of_row(Gaps(machine, late), need_row(machine, row))


def need_rows(machine, late, one, other):
    """Two rows of as many marks."""
    machine = need_machine(machine)
    late = need_late(machine, late)
    one = need_row(machine, one)
    other = need_row(machine, other)
    if len(one[1]) != len(other[1]):
        raise Refused(-1)
    return machine, late, one, other


def pairs_of_rows(machine, late, one, other, found):
    """(nodes, came, at) as `search` has them: triples (gap, state of the one row, of the other).

    The way None leads from a gap to the next one.
    """
    maps = machine[0]
    ones = ways_of_row(maps, one)
    others = ways_of_row(maps, other)

    def behind(node, way):
        gap, left, right = node
        if way is not None:
            return (gap, maps[way][left], maps[way][right])
        if gap == len(ones):
            return node
        return (gap + 1, ones[gap][left], others[gap][right])

    return search(((0, one[0][0][0], other[0][0][0]),), (*late, None), behind, found=found)


def cut_at_gaps(ways):
    """The words between the ways that are None."""
    words = [[]]
    for way in ways:
        if way is None:
            words.append([])
        else:
            words[-1].append(way)
    return tuple(tuple(word) for word in words)


def rows_paper(machine, late, one, other):
    """A paper that tells whether two rows of as many marks tell the same, whatever comes."""
    machine, late, one, other = need_rows(machine, late, one, other)
    classes = Gaps(machine, late).last
    many = len(one[1])
    nodes, came, at = pairs_of_rows(
        machine, late, one, other, lambda node: node[0] == many and classes[node[1]] != classes[node[2]]
    )
    if at < len(nodes):
        _, left, right = nodes[at]
        return ("apart", cut_at_gaps(word_to(came, at)), parting_word_of(machine, left, right))
    gaps = [[] for _ in range(many + 1)]
    for gap, left, right in sorted(nodes):
        gaps[gap].append((left, right))
    return ("alike", tuple(tuple(pairs) for pairs in gaps))


def rows_hold(machine, late, one, other, value):
    """Whether any value is a paper of these two rows."""
    machine, late, one, other = need_rows(machine, late, one, other)
    if is_tuple_of(value, 2) and value[0] == "alike":
        return alike_rows_hold(machine, late, one, other, value[1])
    if is_tuple_of(value, 3) and value[0] == "apart":
        return apart_rows_hold(machine, late, (one, other), value)
    return False


def is_pair_of_states(value, many):
    return is_tuple_of(value, 2) and all_below(value, many)


def alike_rows_hold(machine, late, one, other, gaps):
    """Whether any value has the pairs that both rows come to, and none at the end that a word parts."""
    maps, readings = machine
    if not is_tuple_of(gaps, len(one[1]) + 1) or not all(isinstance(pairs, tuple) for pairs in gaps):
        return False
    if not all(is_pair_of_states(pair, len(readings)) for pairs in gaps for pair in pairs):
        return False
    told = [{pair: True for pair in pairs} for pairs in gaps]
    if (one[0][0][0], other[0][0][0]) not in told[0]:
        return False
    ones = ways_of_row(maps, one)
    others = ways_of_row(maps, other)
    for gap, pairs in enumerate(gaps):
        for left, right in pairs:
            if not all((maps[kind][left], maps[kind][right]) in told[gap] for kind in late):
                return False
            if gap < len(ones) and (ones[gap][left], others[gap][right]) not in told[gap + 1]:
                return False
    classes = Gaps(machine, late).last
    return all(classes[left] == classes[right] for left, right in gaps[-1])


def state_behind_words(maps, row, words, tail):
    """Where a row leads 0 to with a word in each gap, and one on end."""
    state = state_behind(maps, row[0][0][0], words[0])
    for one, word in zip(ways_of_row(maps, row), words[1:]):
        state = state_behind(maps, one[state], word)
    return state_behind(maps, state, tail)


def apart_rows_hold(machine, late, rows, value):
    """Whether a triple has late words for the gaps and a word on end with which the two rows show unlike readings."""
    _, words, tail = value
    maps, readings = machine
    if not are_late_words(late, words, len(rows[0][1]) + 1):
        return False
    if not (isinstance(tail, tuple) and all_below(tail, len(maps))):
        return False
    one, other = [readings[state_behind_words(maps, row, words, tail)] for row in rows]
    return one != other


class LeastTwin:
    """A twin that keeps the needed news of what it heard, and no other."""

    def __init__(self, machine, late):
        self.machine = need_machine(machine)
        self.late = need_late(self.machine, late)
        self.gaps = Gaps(self.machine, self.late)
        self.held = empty_row(self.machine)
        self.moments = ()

    def hear(self, moment, kind):
        """News that come into the room."""
        if need_moment(moment) in self.moments:
            raise InvalidMoment(-1)
        place = len([mark for mark in self.moments if mark < moment])
        if not is_kind_at(self.machine, self.late, kind, place == len(self.moments)):
            raise InvalidKind(-1)
        self.held, kept = row_behind_news(self.gaps, self.held, place, kind)
        moments = (*self.moments[:place], moment, *self.moments[place:])
        self.moments = tuple(moments[number] for number in kept)

    def marks(self):
        """The moments that are kept, ascending."""
        return self.moments

    def row(self):
        return self.held

    def reading(self):
        """What is shown."""
        return self.machine[1][state_of_row(self.machine[0], self.held)]
