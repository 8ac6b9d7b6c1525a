"""Pairs of states as the ends of news: which pairs may still be led to a told one."""

from forgetwhen.gaps import Gaps
from forgetwhen.machines import state_behind
from forgetwhen.roads import Roads, side_of, turned
from forgetwhen.web import side_of_sets


def flags_once(flags, maps):
    """The flags, and those of pairs that one of these maps leads to one with a flag."""
    return tuple(1 if flag or any(flags[one[at]] for one in maps) else 0 for at, flag in enumerate(flags))


def flags_ahead(flags, maps):
    """The flags of all pairs that words of these maps lead to one with a flag."""
    ahead = flags_once(flags, maps)
    while ahead != flags:
        flags = ahead
        ahead = flags_once(flags, maps)
    return flags


class Pairs:
    """The pairs of unlike states, numbered; behind them all one number for one state twice.

    maps has for each kind the pair behind each, late_maps those of late kinds. A row of flags tells which pairs
    something that may still come leads to the told one; one state twice is never led there.
    """

    def __init__(self, machine, late):
        maps, readings = machine
        self.machine = machine
        self.late = late
        self.gaps = Gaps(machine, late)
        states = tuple(range(len(readings)))
        self.pairs = [(one, other) for one in states for other in states if one < other]
        self.numbers = {pair: number for number, pair in enumerate(self.pairs)}
        self.maps = [(*[self.number_of(one[a], one[b]) for a, b in self.pairs], len(self.pairs)) for one in maps]
        self.late_maps = [self.maps[kind] for kind in late]

    def number_of(self, one, other):
        """The number of a pair in either order."""
        return self.numbers.get((min(one, other), max(one, other)), len(self.numbers))

    def last_flags(self, one, other):
        """The flags behind all news: any word leads on."""
        told = self.number_of(one, other)
        return flags_ahead(tuple(1 if number == told else 0 for number in range(len(self.pairs) + 1)), self.maps)

    def flags_of_gap(self, kind, flags):
        """The flags of the gap ahead of news, by those behind it."""
        return flags_ahead(tuple(flags[number] for number in self.maps[kind]), self.late_maps)

    def is_end(self, states, kind, flags):
        """Whether news between a set and such flags have the told pair as ends."""
        maps = self.machine[0]
        for state in states:
            for put in self.late:
                one, other = [state_behind(maps, state, word) for word in ((put, kind), (kind, put))]
                if flags[self.number_of(one, other)]:
                    return True
        return False

    def roads_to(self, one, other):
        """The steps between sets and flags; those are needed whose news have the pair as ends."""
        kinds = tuple(range(len(self.maps)))
        sets, after, ahead = side_of_sets(self.gaps)
        rows, before, behind = side_of(
            self.last_flags(one, other), kinds, lambda flags, kind: self.flags_of_gap(kind, flags)
        )
        ends = [[[1 if self.is_end(states, kind, flags) else 0 for kind in kinds] for flags in rows] for states in sets]
        return Roads(after, before, ends, (ahead, turned(behind)))

    def flags_along(self, one, other, word):
        """The flags of all gaps of a word."""
        rows = [self.last_flags(one, other)]
        for kind in reversed(word):
            rows.append(self.flags_of_gap(kind, rows[-1]))
        return tuple(reversed(rows))

    def ends_along(self, one, other, word):
        """The places of the news of a word that have the pair as ends."""
        sets = self.gaps.sets_along(self.gaps.first, [self.gaps.maps[kind] for kind in word])
        flags = self.flags_along(one, other, word)
        return [place for place, kind in enumerate(word) if self.is_end(sets[place], kind, flags[place + 1])]
