"""The greatest numbers of needed news for all numbers of news, however great."""

from forgetwhen.checks import is_integer, is_tuple_of, is_within
from forgetwhen.errors import InvalidSize
from forgetwhen.roads import NO_WAY
from forgetwhen.web import need_gaps, need_roads, roads_of

MOST_NUMBER = 1000000000000000000


class Rises:
    """The most needed steps of ways of each length, as far as is wanted to tell them for all lengths.

    rows[n][node] is the greatest number of needed steps of ways of n steps from a begin to a node.
    """

    def __init__(self, roads):
        self.roads = roads
        self.rows = [roads.at_nodes(roads.begins)]
        self.counts = [roads.at_ends(self.rows[0])]
        self.first, self.turn = self.found()
        self.rise = self.counts[self.first + self.turn] - self.counts[self.first]

    def go_on(self, many):
        """Rows up to so many steps."""
        while len(self.rows) <= many:
            self.rows.append(self.roads.one_more(self.rows[-1]))
            self.counts.append(self.roads.at_ends(self.rows[-1]))

    def found(self):
        """(first, turn): from the first number on, a turn more rises by the same for ever."""
        last = 16
        while True:
            self.go_on(last)
            for turn in range(1, last // 3 + 1):
                first = last - 2 * turn
                if self.goes_on(first, turn):
                    return self.least_first(first, turn), turn
            last *= 2

    def least_first(self, first, turn):
        while first > 0 and self.goes_on(first - 1, turn):
            first -= 1
        return first

    def goes_on(self, first, turn):
        """Whether what is seen from here to two turns on tells it for ever."""
        counts = self.counts
        rise = counts[first + turn] - counts[first]
        if any(counts[at + turn] - counts[at] != rise for at in range(first, first + turn)):
            return False
        rises = [self.rises_at(at, turn) for at in range(first, first + turn + 1)]
        if None in rises or rises[0] != rises[-1]:
            return False
        if not all(self.never_fall(at, rises[at - first], rises[at - first + 1]) for at in range(first, first + turn)):
            return False
        return all(self.leads(at, rises[at - first], rise) for at in range(first, first + turn))

    def rises_at(self, at, turn):
        """For each node by how much it rises in a turn, None if no way leads to it; None if that is unlike."""
        now = self.rows[at]
        later = self.rows[at + turn]
        if any((one == NO_WAY) != (other == NO_WAY) for one, other in zip(now, later)):
            return None
        return [None if one == NO_WAY else other - one for one, other in zip(now, later)]

    def never_fall(self, at, rises, next_rises):
        """Whether along each step a way's rise is at most that of the node behind."""
        now = self.rows[at]
        steps = self.roads.steps
        return all(now[begin] == NO_WAY or rises[begin] <= next_rises[end] for begin, end, _, _ in steps)

    def leads(self, at, rises, rise):
        """Whether some node at the end has both the greatest number and the greatest rise, which is this one."""
        ends = [node for node in self.roads.ends if self.rows[at][node] != NO_WAY]
        if max(rises[node] for node in ends) != rise:
            return False
        return any(self.rows[at][node] == self.counts[at] and rises[node] == rise for node in ends)

    def most_of(self, many):
        """The greatest number of needed news in records of so many."""
        if many < self.first + self.turn:
            return self.counts[many]
        turns = (many - self.first) // self.turn
        return self.counts[many - turns * self.turn] + turns * self.rise


def need_rises(machine, late):
    return Rises(need_roads(machine, late))


def counts_paper(machine, late):
    """(counts, round, rise): from the last turn on, so many news more add so many needed ones, for all numbers."""
    rises = need_rises(machine, late)
    return (tuple(rises.counts[:rises.first + rises.turn]), rises.turn, rises.rise)


def counts_hold(machine, late, value):
    """Whether any value is such a triple."""
    rises = need_rises(machine, late)
    if not is_tuple_of(value, 3):
        return False
    counts, turn, rise = value
    if not isinstance(counts, tuple) or not all(is_integer(count) for count in counts):
        return False
    if not (is_integer(rise) and is_within(turn, 1, len(counts))):
        return False
    if any(count != rises.most_of(many) for many, count in enumerate(counts)):
        return False
    # From both firsts on, what a turn adds comes again with the rises' own turn.
    first = len(counts) - turn
    last = max(first, rises.first) + rises.turn
    return all(rises.most_of(many + turn) == rises.most_of(many) + rise for many in range(first, last))


def marks_for(machine, late, many):
    """The greatest number of needed news in records of so many."""
    gaps = need_gaps(machine, late)
    if not is_within(many, 0, MOST_NUMBER):
        raise InvalidSize("many")
    return Rises(roads_of(gaps)).most_of(many)
