"""The maps of all words of a least machine, powers of maps, and what can be undone."""

from forgetwhen.least import need_least
from forgetwhen.machines import need_map, then
from forgetwhen.monoid import Monoid

MOST_MAPS = 300


def all_maps(machine):
    """Pairs (word, map): all maps of words, each with the least of its shortest words."""
    monoid = Monoid(need_least(machine), MOST_MAPS)
    return tuple(zip(monoid.words, monoid.maps))


def map_number(machine, one):
    """The number of a map of the states among `all_maps`, or None."""
    machine = need_least(machine)
    one = need_map(machine, one)
    return Monoid(machine, MOST_MAPS).numbers.get(one)


def idempotents(machine):
    """The numbers of the maps that are the same once and twice."""
    monoid = Monoid(need_least(machine), MOST_MAPS)
    return tuple(number for number in range(monoid.size()) if monoid.is_idempotent(number))


def power_ring(machine, one):
    """(lead, turn): from the lead on, so many times more of a map change nothing of its power."""
    machine = need_least(machine)
    return ring_of_powers(need_map(machine, one))


def ring_of_powers(one):
    """(lead, turn) of a map that was looked at."""
    power = tuple(range(len(one)))
    times = {}
    while power not in times:
        times[power] = len(times)
        power = then(power, one)
    return (times[power], len(times) - times[power])


def still_power(machine, one):
    """The least number from 1 on such that so many times a map is idempotent."""
    machine = need_least(machine)
    return still_times(need_map(machine, one))


def still_times(one):
    """The same, of a map that was looked at."""
    lead, turn = ring_of_powers(one)
    many = 1
    # So many times the map, and twice as many, are one power exactly then.
    while many < lead or many % turn != 0:
        many += 1
    return many


def undone_at(machine, number):
    """Pairs of maps at an idempotent map that make it, one behind the other."""
    monoid = Monoid(need_least(machine), MOST_MAPS)
    number = monoid.need_idempotent(number)
    local = sorted({monoid.product(number, one, number) for one in range(monoid.size())})
    return tuple((one, other) for one in local for other in local if monoid.times[one][other] == number)
