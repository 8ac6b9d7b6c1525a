"""Gaps of records whose kinds come so late at most: what may still be put in hangs on how many news are behind."""

from forgetwhen.gaps import Gaps
from forgetwhen.rows import ways_of_row
from forgetwhen.search import search


def greatest_told(lateness):
    """The greatest number told, 0 if there is none."""
    return max([number for number in lateness if number is not None], default=0)


def kinds_with_behind(lateness, behind):
    """The kinds that may still be put in with so many news behind them."""
    return tuple(kind for kind, number in enumerate(lateness) if number is None or number >= behind)


class ToldGaps:
    """Sets and relations of gaps, by how many news are behind them.

    Beyond the window all gaps have the same kinds: those that may come however late.
    """

    def __init__(self, machine, lateness):
        self.maps = machine[0]
        self.window = greatest_told(lateness)
        self.beyond = self.window + 1
        self.by_behind = [Gaps(machine, kinds_with_behind(lateness, behind)) for behind in range(self.beyond + 1)]

    def with_behind(self, behind):
        """The gaps that have so many news behind them."""
        return self.by_behind[min(behind, self.beyond)]

    def sets_along(self, one, ways):
        """The sets of all gaps of a row of maps, behind a first map."""
        sets = [self.with_behind(len(ways)).states_behind((0,), one)]
        for place, way in enumerate(ways):
            sets.append(self.with_behind(len(ways) - place - 1).states_behind(sets[-1], way))
        return tuple(sets)

    def relations_along(self, ways):
        """The relations of all gaps of a row of maps."""
        relations = [self.with_behind(0).last]
        for behind, way in enumerate(reversed(ways)):
            relations.append(self.with_behind(behind + 1).classes_ahead(way, relations[-1]))
        return tuple(reversed(relations))

    def needed_along(self, one, ways):
        """The places of the needed ones in a row of maps, behind a first map."""
        sets = self.sets_along(one, ways)
        relations = self.relations_along(ways)
        found = []
        for place, way in enumerate(ways):
            if self.with_behind(len(ways) - place).is_needed(sets[place], way, relations[place + 1]):
                found.append(place)
        return tuple(found)

    def kept_of_row(self, row):
        """The places of a row's needed marks, and of its last ones, as many as the window."""
        many = len(row[1])
        needed = self.needed_along(row[0][0], ways_of_row(self.maps, row))
        return tuple(place for place in range(many) if place in needed or place >= many - self.window)


def relations_by_behind(gaps):
    """For each number of news behind up to the window, and beyond it, the relations of words of such lengths."""
    rows = [[gaps.with_behind(0).last]]
    for behind in range(1, gaps.beyond + 1):
        found = {}
        for classes in rows[-1]:
            for one in gaps.maps:
                found[gaps.with_behind(behind).classes_ahead(one, classes)] = True
        rows.append(list(found))
    endless = gaps.with_behind(gaps.beyond)
    beyond, _, _ = search(rows[-1], gaps.maps, lambda classes, one: endless.classes_ahead(one, classes))
    return (*rows[:-1], beyond)


def raise_to(most, node, many):
    """Keeps that there may be so many at a node; whether fewer were known."""
    if most.get(node, -1) >= many:
        return False
    most[node] = many
    return True


def most_beyond(gaps, relations):
    """For each pair of a set and a relation beyond the window the most needed news ahead of it.

    There must be a greatest number of them.
    """
    endless = gaps.with_behind(gaps.beyond)
    most = {(endless.first, classes): 0 for classes in relations}
    raised = True
    while raised:
        raised = False
        steps = steps_between(gaps, most, gaps.beyond, relations, gaps.beyond, False)
        for node, many in steps:
            raised = raise_to(most, node, many) or raised
    return most


def steps_between(gaps, most, behind, relations, left, kept):
    """(node, most news ahead of it) for each step from gaps with so many news behind to those with so many left.

    News that are kept count, whether they are needed or not.
    """
    here = gaps.with_behind(behind)
    found = []
    for states in list({states: True for states, _ in most}):
        for classes in relations:
            for one in gaps.maps:
                node = (states, here.classes_ahead(one, classes))
                if node in most:
                    more = 1 if kept or here.is_needed(states, one, classes) else 0
                    found.append(((gaps.with_behind(left).states_behind(states, one), classes), most[node] + more))
    return found


def most_told(gaps, rows, keeps_window):
    """The most needed news of a record, or needed and last ones, as many as the window."""
    most = most_beyond(gaps, rows[gaps.beyond])
    for left in reversed(range(gaps.beyond)):
        # A record may begin here, too.
        nearer = {(gaps.with_behind(left).first, classes): 0 for classes in rows[left]}
        kept = keeps_window and left < gaps.window
        steps = steps_between(gaps, most, left + 1, rows[left], left, kept)
        for node, many in steps:
            raise_to(nearer, node, many)
        most = nearer
    return max(most.values())
