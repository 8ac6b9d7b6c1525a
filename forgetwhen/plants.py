"""Plants put together: side by side, in a relay, moved by words, and read by readers."""

from forgetwhen.checks import first_not_below, is_row_of, is_row_within, is_within
from forgetwhen.errors import InvalidLot, InvalidPlant, InvalidSize, InvalidState, InvalidWord
from forgetwhen.least import class_rounds, need_two, renamed
from forgetwhen.machines import MOST_KINDS, MOST_STATES, READINGS, map_of, need_late, need_machine, need_word
from forgetwhen.roads import Roads, most_marks, side_of
from forgetwhen.search import search

MOST_READERS_KINDS = 3
MOST_VALUES = 8
MOST_SET = 4


def machine_from(begin, kinds, behind, shown):
    """The machine of the states that kinds lead a begin to, numbered as first come to."""
    states, _, _ = search((begin,), tuple(range(kinds)), behind, most=MOST_STATES)
    if len(states) > MOST_STATES:
        raise InvalidSize("states")
    numbers = {state: number for number, state in enumerate(states)}
    maps = tuple(tuple(numbers[behind(state, kind)] for state in states) for kind in range(kinds))
    return (maps, renamed([shown(state) for state in states]))


def need_late_machine(machine, late):
    machine = need_machine(machine)
    return machine, need_late(machine, late)


def kinds_apart(one, late, other, late_other):
    """(machine, late): two plants side by side, each moved by kinds of its own."""
    one, late = need_late_machine(one, late)
    other, late_other = need_late_machine(other, late_other)
    first = len(one[0])
    if first + len(other[0]) > MOST_KINDS:
        raise InvalidSize("kinds")

    def behind(pair, kind):
        if kind < first:
            return (one[0][kind][pair[0]], pair[1])
        return (pair[0], other[0][kind - first][pair[1]])

    machine = machine_from(
        (0, 0), first + len(other[0]), behind, lambda pair: (one[1][pair[0]], other[1][pair[1]])
    )
    return machine, (*late, *[first + kind for kind in late_other])


def kinds_shared(one, other):
    """Two plants side by side, both moved by all news."""
    one, other = need_two(one, other)
    return machine_from(
        (0, 0), len(one[0]),
        lambda pair, kind: (one[0][kind][pair[0]], other[0][kind][pair[1]]),
        lambda pair: (one[1][pair[0]], other[1][pair[1]]),
    )


def need_begins(one, other, value):
    """For each state of the one plant a state of the other one."""
    if not is_row_of(value, len(one[1])):
        raise InvalidState(-1)
    at = first_not_below(value, len(other[1]))
    if at is not None:
        raise InvalidState(at)
    return tuple(value)


def relayed(one, other, begins):
    """The one plant until news of a kind more come, then the other one from the begin that is told."""
    one, other = need_two(one, other)
    last = len(one[0])
    if last == MOST_KINDS:
        raise InvalidSize("kinds")
    begins = need_begins(one, other, begins)
    plants = (one, other)

    def behind(pair, kind):
        which, state = pair
        if kind < last:
            return (which, plants[which][0][kind][state])
        return (1, begins[state]) if which == 0 else pair

    return machine_from((0, 0), last + 1, behind, lambda pair: (pair[0], plants[pair[0]][1][pair[1]]))


def need_words(machine, value):
    """One to four words."""
    if not is_row_within(value, 1, MOST_KINDS):
        raise InvalidLot(-1)
    words = []
    for at, word in enumerate(value):
        try:
            words.append(need_word(machine, word))
        except InvalidWord:
            raise InvalidLot(at) from None
    return tuple(words)


def by_words(machine, late, words):
    """(machine, late): the same plant, each of its kinds moves as a word; those of late kinds alone are late."""
    machine, late = need_late_machine(machine, late)
    words = need_words(machine, words)
    maps = tuple(map_of(machine, word) for word in words)
    lates = tuple(kind for kind, word in enumerate(words) if all(letter in late for letter in word))
    return (maps, machine[1]), lates


def is_reader_kind(value, values, states):
    """Whether any value has for each of so many values a map of so many states."""
    if not is_row_of(value, values):
        return False
    return all(is_row_of(one, states) and first_not_below(one, states) is None for one in value)


def need_reader(value):
    """The reader, in tuples."""
    if not is_row_of(value, 2):
        raise InvalidPlant(-1)
    kinds, readings = value
    if not (is_row_within(kinds, 1, MOST_READERS_KINDS) and is_row_within(readings, 1, MOST_STATES)):
        raise InvalidPlant(-1)
    if not is_row_within(kinds[0], 1, MOST_VALUES):
        raise InvalidPlant(0)
    for at, kind in enumerate(kinds):
        if not is_reader_kind(kind, len(kinds[0]), len(readings)):
            raise InvalidPlant(at)
    if first_not_below(readings, READINGS) is not None:
        raise InvalidPlant(len(kinds))
    return (tuple(tuple(tuple(one) for one in kind) for kind in kinds), tuple(readings))


def read_by(plant, late, reader):
    """(machine, late): a plant and a reader, which is moved by what the plant shows."""
    plant, late = need_late_machine(plant, late)
    kinds, readings = need_reader(reader)
    first = len(plant[0])
    if first + len(kinds) > MOST_KINDS:
        raise InvalidSize("kinds")
    if max(plant[1]) >= len(kinds[0]):
        raise InvalidSize("values")

    def behind(pair, kind):
        state, read = pair
        if kind < first:
            return (plant[0][kind][state], read)
        return (state, kinds[kind - first][plant[1][state]][read])

    machine = machine_from(
        (0, 0), first + len(kinds), behind, lambda pair: (plant[1][pair[0]], readings[pair[1]])
    )
    return machine, late


def setters(values):
    """(machine, late): a plant with a kind for each value, which sets it, all of them late."""
    if not is_within(values, 1, MOST_SET):
        raise InvalidSize("values")
    every = tuple(range(values))
    return (tuple((value,) * values for value in every), every), every


def states_read(kind, states):
    """The states that a reader's kind leads these to, whatever it reads, ascending."""
    return tuple(sorted({one[state] for one in kind for state in states}))


def classes_read(kind, classes):
    """The classes of states that a reader's kind leads to one class, whatever it reads."""
    return renamed([tuple(classes[one[state]] for one in kind) for state in range(len(classes))])


def does_matter(kind, states, classes):
    """Whether what is read leads some state to unlike classes."""
    return any(len({classes[one[state]] for one in kind}) > 1 for state in states)


def last_classes(reader):
    """The classes of a reader's states that no kinds and values on end part."""
    kinds, readings = reader
    return class_rounds(readings, [one for kind in kinds for one in kind])[-1]


def places_read(reader, word):
    """The places of a word of a reader's kinds at which the value that is read matters."""
    reader = need_reader(reader)
    kinds = reader[0]
    word = need_word((((0,),) * len(kinds), (0,)), word)
    sets = [(0,)]
    for letter in word:
        sets.append(states_read(kinds[letter], sets[-1]))
    relations = [last_classes(reader)]
    for letter in reversed(word):
        relations.append(classes_read(kinds[letter], relations[-1]))
    relations = list(reversed(relations))
    return tuple(
        place for place, letter in enumerate(word) if does_matter(kinds[letter], sets[place], relations[place + 1])
    )


def reader_places(reader):
    """The greatest number of such places in any word, or None."""
    reader = need_reader(reader)
    kinds = reader[0]
    every = tuple(range(len(kinds)))
    sets, after, ahead = side_of((0,), every, lambda states, kind: states_read(kinds[kind], states))
    relations, before, behind = side_of(
        last_classes(reader), every, lambda classes, kind: classes_read(kinds[kind], classes)
    )
    matters = [
        [[1 if does_matter(kind, states, classes) else 0 for kind in kinds] for classes in relations] for states in sets
    ]
    return most_marks(Roads(after, before, matters, (ahead, behind)))
