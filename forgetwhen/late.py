"""Machines all of whose kinds may come late: faults against forgetting when, and the most that is kept."""

from forgetwhen.checks import all_below, is_tuple_of, is_within
from forgetwhen.court import MOST_COURT
from forgetwhen.errors import InvalidSize
from forgetwhen.least import need_least
from forgetwhen.machines import MOST_STATES, map_of, then
from forgetwhen.monoid import Monoid


def late_fault(machine):
    """A fault against forgetting when, if all kinds may come late, or None."""
    monoid = Monoid(need_least(machine), MOST_COURT)
    for number in range(monoid.size()):
        if monoid.is_idempotent(number):
            fault = fault_at(monoid, number)
            if fault is not None:
                return fault
    return None


def fault_at(monoid, number):
    """A fault with this idempotent map, or None."""
    times = monoid.times
    every = tuple(range(monoid.size()))
    word = monoid.words[number]
    for a in every:
        ahead = times[times[number][a]][number]
        for b in every:
            if times[times[times[number][a]][b]][number] != times[times[ahead][b]][number]:
                return ("parted", word, monoid.words[a], monoid.words[b])
    for x, y in undone_pairs(monoid, number):
        for a in every:
            if times[times[x][a]][number] != times[times[number][a]][x]:
                return ("bound", monoid.words[x], monoid.words[y], monoid.words[a])
    return None


def undone_pairs(monoid, number):
    """Pairs of maps at an idempotent map that make it, one behind the other."""
    local = [one for one in range(monoid.size()) if monoid.product(number, one, number) == one]
    return [(one, other) for one in local for other in local if monoid.times[one][other] == number]


def late_fault_holds(machine, value):
    """Whether any value is such a fault."""
    machine = need_least(machine)
    if not is_tuple_of(value, 4):
        return False
    words = value[1:]
    if not all(isinstance(word, tuple) and all_below(word, len(machine[0])) for word in words):
        return False
    one, two, three = [map_of(machine, word) for word in words]
    if value[0] == "parted":
        return is_parted_fault(one, two, three)
    if value[0] == "bound":
        return is_bound_fault(one, two, three)
    return False


def in_turn(*maps):
    """Several maps, one behind another."""
    whole = maps[0]
    for one in maps[1:]:
        whole = then(whole, one)
    return whole


def is_parted_fault(f, a, b):
    return then(f, f) == f and in_turn(f, a, b, f) != in_turn(f, a, f, b, f)


def is_bound_fault(x, y, a):
    f = then(x, y)
    if then(f, f) != f or in_turn(f, x, f) != x or in_turn(f, y, f) != y:
        return False
    return in_turn(x, a, f) != in_turn(f, a, x)


def need_states(states):
    if not is_within(states, 1, MOST_STATES):
        raise InvalidSize("states")
    return states


def most_kept(states):
    """The most needed news of machines of so many states whose loops forget when, all kinds late."""
    need_states(states)
    if states < 3:
        return states - 1
    return 2 * states - 4


def steep_machine(states):
    """A machine of so many states in whose records as many news as may be are needed."""
    need_states(states)
    shown = tuple(range(states))
    if states == 1:
        return (((0,), (0,)), shown)
    if states == 2:
        return (((0, 0), (1, 1)), shown)
    if states == 3:
        return (((1, 1, 2), (0, 2, 2)), shown)
    last = states - 1
    first = (0,) + tuple(range(2, states)) + (last,)
    second = tuple(range(1, states - 2)) + (last, states - 2, last)
    return ((first, second), shown)


def steep_word(states):
    """The word of such a machine all of whose news are needed."""
    need_states(states)
    if states == 1:
        return ()
    if states == 2:
        return (1,)
    if states == 3:
        return (1, 0)
    return (0,) * (states - 2) + (1,) * (states - 2)
