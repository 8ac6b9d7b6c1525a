"""Machines, their kinds, states, words and maps."""

from forgetwhen.checks import first_not_below, is_below, is_row, is_row_of, is_row_within
from forgetwhen.errors import InvalidKind, InvalidLate, InvalidMachine, InvalidMap, InvalidState, InvalidWord
from forgetwhen.search import search, word_to

MOST_KINDS = 4
MOST_STATES = 8
MOST_LETTERS = 400
READINGS = 100


def need_machine(value):
    """The machine, in tuples."""
    if not is_row_of(value, 2):
        raise InvalidMachine(-1)
    maps, readings = value
    if not (is_row_within(maps, 1, MOST_KINDS) and is_row_within(readings, 1, MOST_STATES)):
        raise InvalidMachine(-1)
    many = len(readings)
    for kind, one in enumerate(maps):
        if not is_row_of(one, many) or first_not_below(one, many) is not None:
            raise InvalidMachine(kind)
    if first_not_below(readings, READINGS) is not None:
        raise InvalidMachine(len(maps))
    return (tuple(tuple(one) for one in maps), tuple(readings))


def machine_sizes(machine):
    """(how many states, how many kinds)"""
    maps, readings = need_machine(machine)
    return (len(readings), len(maps))


def need_kind(machine, value):
    maps, _ = need_machine(machine)
    if not is_below(value, len(maps)):
        raise InvalidKind(-1)
    return value


def need_state(machine, value):
    _, readings = need_machine(machine)
    if not is_below(value, len(readings)):
        raise InvalidState(-1)
    return value


def need_late(machine, value):
    """The late kinds, ascending."""
    maps, _ = need_machine(machine)
    if not is_row(value):
        raise InvalidLate(-1)
    late = []
    for at, kind in enumerate(value):
        if not is_below(kind, len(maps)) or kind in late:
            raise InvalidLate(at)
        late.append(kind)
    return tuple(sorted(late))


def need_word(machine, value):
    """A row of at most 400 kinds, as a tuple."""
    maps, _ = need_machine(machine)
    if not is_row_within(value, 0, MOST_LETTERS):
        raise InvalidWord(-1)
    at = first_not_below(value, len(maps))
    if at is not None:
        raise InvalidWord(at)
    return tuple(value)


def need_map(machine, value):
    """A map of the machine's states, as a tuple."""
    _, readings = need_machine(machine)
    if not is_row_of(value, len(readings)):
        raise InvalidMap(-1)
    at = first_not_below(value, len(readings))
    if at is not None:
        raise InvalidMap(at)
    return tuple(value)


def then(one, other):
    """One map and, behind it, another one, of maps that were looked at."""
    return tuple(other[state] for state in one)


def state_behind(maps, state, word):
    """Where a word leads a state, of things that were looked at."""
    for kind in word:
        state = maps[kind][state]
    return state


def map_of(machine, word):
    """The map of a word, of things that were looked at; the word may be longer than 400 kinds."""
    maps, readings = machine
    whole = tuple(range(len(readings)))
    for kind in word:
        whole = then(whole, maps[kind])
    return whole


def same_map(machine):
    """The map that changes nothing."""
    return map_of(need_machine(machine), ())


def map_then(machine, one, other):
    """The one map and, behind it, the other one."""
    machine = need_machine(machine)
    one = need_map(machine, one)
    return then(one, need_map(machine, other))


def word_map(machine, word):
    machine = need_machine(machine)
    return map_of(machine, need_word(machine, word))


def word_states(machine, word):
    """The states from 0 on, with 0."""
    machine = need_machine(machine)
    states = [0]
    for kind in need_word(machine, word):
        states.append(machine[0][kind][states[-1]])
    return tuple(states)


def word_readings(machine, word):
    """What the states from 0 on show."""
    machine = need_machine(machine)
    return tuple(machine[1][state] for state in word_states(machine, word))


def reached(machine):
    """(states, came) as `search` has them: what words lead to from 0."""
    maps, _ = machine
    states, came, _ = search((0,), tuple(range(len(maps))), lambda state, kind: maps[kind][state])
    return states, came


def reach_words(machine):
    """For each state the least of the shortest words that lead to it, or None."""
    machine = need_machine(machine)
    states, came = reached(machine)
    words = [None] * len(machine[1])
    for number, state in enumerate(states):
        words[state] = word_to(came, number)
    return tuple(words)
