"""Least machines, machines that are alike, and the numbers of machines."""

from forgetwhen.checks import all_below, is_below, is_tuple_of, is_within
from forgetwhen.digits import nth_row, row_count, row_number
from forgetwhen.errors import InvalidIndex, InvalidMachine, InvalidSize, InvalidState
from forgetwhen.machines import MOST_KINDS, MOST_STATES, READINGS, need_machine, reached, state_behind
from forgetwhen.search import search, word_to


def renamed(keys):
    """Numbers for keys, as first come to."""
    names = {}
    for key in keys:
        if key not in names:
            names[key] = len(names)
    return tuple(names[key] for key in keys)


def refined(classes, maps):
    """Classes of those that are in one class, and behind each map, too."""
    keys = []
    for state, name in enumerate(classes):
        keys.append((name, tuple(classes[one[state]] for one in maps)))
    return renamed(keys)


def class_rounds(classes, maps):
    """The classes, and finer ones as long as there are more of them than ahead."""
    rows = [renamed(classes)]
    finer = refined(rows[0], maps)
    while max(finer) > max(rows[-1]):
        rows.append(finer)
        finer = refined(finer, maps)
    return tuple(rows)


def rounds(machine):
    """Rows of classes of states that no word of so many kinds parts."""
    maps, readings = need_machine(machine)
    return class_rounds(readings, maps)


def parting_word_of(machine, one, other):
    """The least of the shortest words that part two states, or None, of things that were looked at."""
    maps, readings = machine
    kinds = tuple(range(len(maps)))
    pairs, came, at = search(
        ((one, other),),
        kinds,
        lambda pair, kind: (maps[kind][pair[0]], maps[kind][pair[1]]),
        found=lambda pair: readings[pair[0]] != readings[pair[1]],
    )
    if at == len(pairs):
        return None
    return word_to(came, at)


def parting_word(machine, one, other):
    """The least of the shortest words that part two states, or None."""
    machine = need_machine(machine)
    for at, state in enumerate((one, other)):
        if not is_below(state, len(machine[1])):
            raise InvalidState(at)
    return parting_word_of(machine, one, other)


def least_names(machine):
    """For each state its number in the least machine, None if no word leads to it."""
    machine = need_machine(machine)
    classes = rounds(machine)[-1]
    states, _ = reached(machine)
    numbers = renamed([classes[state] for state in states])
    names = [None] * len(classes)
    for state, number in zip(states, numbers):
        names[state] = number
    return tuple(names)


def least_machine(machine):
    """The machine of fewest states that shows the same along each word."""
    maps, readings = need_machine(machine)
    names = least_names((maps, readings))
    states = {}
    for state, name in enumerate(names):
        if name is not None:
            states[name] = state
    ordered = [states[name] for name in range(len(states))]
    least_maps = tuple(tuple(names[one[state]] for state in ordered) for one in maps)
    return (least_maps, tuple(readings[state] for state in ordered))


def is_least(machine):
    machine = need_machine(machine)
    return least_machine(machine) == machine


def need_least(machine):
    """The machine, in tuples, if it is its own least machine."""
    machine = need_machine(machine)
    if least_machine(machine) != machine:
        raise InvalidMachine(-1)
    return machine


def need_two(one, other):
    """Two machines of as many kinds."""
    one = need_machine(one)
    other = need_machine(other)
    if len(one[0]) != len(other[0]):
        raise InvalidSize("kinds")
    return one, other


def alike_paper(one, other):
    """A word behind which two machines show unlike readings, or all pairs of states that words lead to."""
    one, other = need_two(one, other)
    kinds = tuple(range(len(one[0])))
    pairs, came, at = search(
        ((0, 0),),
        kinds,
        lambda pair, kind: (one[0][kind][pair[0]], other[0][kind][pair[1]]),
        found=lambda pair: one[1][pair[0]] != other[1][pair[1]],
    )
    if at < len(pairs):
        return ("word", word_to(came, at))
    return ("same", tuple(sorted(pairs)))


def alike_holds(one, other, value):
    """Whether any value is a paper of these two machines."""
    one, other = need_two(one, other)
    if not is_tuple_of(value, 2) or not isinstance(value[1], tuple):
        return False
    if value[0] == "word":
        return word_parts(one, other, value[1])
    if value[0] == "same":
        return pairs_hold(one, other, value[1])
    return False


def word_parts(one, other, word):
    """Whether any tuple is a word behind which the two show unlike readings."""
    if not all_below(word, len(one[0])):
        return False
    return one[1][state_behind(one[0], 0, word)] != other[1][state_behind(other[0], 0, word)]


def pairs_hold(one, other, pairs):
    """Whether any tuple has (0, 0), pairs of one reading alone, and with each those behind it."""
    for pair in pairs:
        if not is_tuple_of(pair, 2):
            return False
        if not (is_below(pair[0], len(one[1])) and is_below(pair[1], len(other[1]))):
            return False
    told = {pair: True for pair in pairs}
    if (0, 0) not in told:
        return False
    for left, right in told:
        if one[1][left] != other[1][right]:
            return False
        for one_map, other_map in zip(one[0], other[0]):
            if (one_map[left], other_map[right]) not in told:
                return False
    return True


def machine_bases(states, kinds, shown):
    """How many numbers there are for each place of a machine's maps and readings."""
    if not is_within(states, 1, MOST_STATES):
        raise InvalidSize("states")
    if not is_within(kinds, 1, MOST_KINDS):
        raise InvalidSize("kinds")
    if not is_within(shown, 1, READINGS):
        raise InvalidSize("shown")
    return [states] * (states * kinds) + [shown] * states


def machine_count(states, kinds, shown):
    """How many machines of so many states and kinds show numbers below `shown` alone."""
    return row_count(machine_bases(states, kinds, shown))


def nth_machine(states, kinds, shown, number):
    """The one of a number of these machines, ascending."""
    bases = machine_bases(states, kinds, shown)
    if not is_below(number, row_count(bases)):
        raise InvalidIndex(-1)
    digits = nth_row(bases, number)
    maps = tuple(digits[kind * states:(kind + 1) * states] for kind in range(kinds))
    return (maps, digits[kinds * states:])


def machine_number(machine, shown):
    """The number by which `nth_machine` has it."""
    maps, readings = need_machine(machine)
    if not is_within(shown, 1, READINGS) or max(readings) >= shown:
        raise InvalidSize("shown")
    digits = []
    for one in maps:
        digits.extend(one)
    digits.extend(readings)
    return row_number(machine_bases(len(readings), len(maps), shown), digits)
