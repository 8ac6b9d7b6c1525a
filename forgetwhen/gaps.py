"""Sets and relations of gaps: where late words may still be put in, and what they may still part."""

from forgetwhen.least import class_rounds
from forgetwhen.machines import then
from forgetwhen.search import search


def late_states(maps, late, begins):
    """The states that late words lead these to, ascending."""
    states, _, _ = search(begins, late, lambda state, kind: maps[kind][state])
    return tuple(sorted(states))


def is_parted(maps, late, one, states, classes):
    """Whether it is not all one on which side of a map some late kind stands, between states and classes."""
    for put in late:
        for state in states:
            if classes[one[maps[put][state]]] != classes[maps[put][one[state]]]:
                return True
    return False


class Gaps:
    """Sets and relations of a machine's gaps, each kept, since along a row the same ones come again.

    What stands between two gaps is told by its map.
    """

    def __init__(self, machine, late):
        self.maps, readings = machine
        self.late = late
        self.late_maps = [self.maps[kind] for kind in late]
        self.first = late_states(self.maps, late, (0,))
        self.last = class_rounds(readings, self.maps)[-1]
        self.known_states = {}
        self.known_classes = {}
        self.known_needed = {}

    def states_behind(self, states, one):
        """The set of the gap behind a map, by the set ahead of it."""
        key = (states, one)
        if key not in self.known_states:
            self.known_states[key] = late_states(self.maps, self.late, then(states, one))
        return self.known_states[key]

    def classes_ahead(self, one, classes):
        """The relation of the gap ahead of a map, by the relation behind it."""
        key = (one, classes)
        if key not in self.known_classes:
            self.known_classes[key] = class_rounds(then(one, classes), self.late_maps)[-1]
        return self.known_classes[key]

    def is_needed(self, states, one, classes):
        """Whether news with this map are needed between a set and a relation."""
        key = (states, one, classes)
        if key not in self.known_needed:
            self.known_needed[key] = is_parted(self.maps, self.late, one, states, classes)
        return self.known_needed[key]

    def sets_along(self, states, ways):
        """The sets of all gaps of a row of maps, from the first one on."""
        sets = [states]
        for one in ways:
            sets.append(self.states_behind(sets[-1], one))
        return tuple(sets)

    def relations_along(self, ways):
        """The relations of all gaps of a row of maps."""
        relations = [self.last]
        for one in reversed(ways):
            relations.append(self.classes_ahead(one, relations[-1]))
        return tuple(reversed(relations))

    def needed_along(self, states, ways):
        """The places of the needed ones in a row of maps."""
        sets = self.sets_along(states, ways)
        relations = self.relations_along(ways)
        return tuple(
            place for place, one in enumerate(ways) if self.is_needed(sets[place], one, relations[place + 1])
        )
