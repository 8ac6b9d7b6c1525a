"""Panels of instruments over one plant: what a lot of them needs, and the most that can be shown."""

from forgetwhen.checks import first_not_below, is_below, is_row, is_row_of, is_row_within, is_tuple_of, is_within
from forgetwhen.errors import InvalidIndex, InvalidLot, InvalidPanel, InvalidSize, InvalidState, Refused
from forgetwhen.least import renamed
from forgetwhen.lots import all_lots, greatest_lots
from forgetwhen.machines import MOST_KINDS, MOST_STATES, READINGS, need_late, need_machine, need_word
from forgetwhen.needed import keeps_alike, needed_of, sets_of
from forgetwhen.pairs import Pairs
from forgetwhen.roads import most_marks, words_of_ring
from forgetwhen.ways import is_word, marks_of

MOST_INSTRUMENTS = 6


def are_maps(value):
    """Whether any value has maps of as many states each."""
    if not is_row_within(value, 1, MOST_KINDS) or not is_row_within(value[0], 1, MOST_STATES):
        return False
    many = len(value[0])
    return all(is_row_of(one, many) and first_not_below(one, many) is None for one in value)


def need_panel(value):
    """The panel, in tuples."""
    if not is_row_of(value, 2):
        raise InvalidPanel(-1)
    maps, instruments = value
    if not (are_maps(maps) and is_row_within(instruments, 1, MOST_INSTRUMENTS)):
        raise InvalidPanel(-1)
    for at, shown in enumerate(instruments):
        if not is_row_of(shown, len(maps[0])) or first_not_below(shown, READINGS) is not None:
            raise InvalidPanel(at)
    return (tuple(tuple(one) for one in maps), tuple(tuple(shown) for shown in instruments))


def need_lot(panel, value):
    """A lot of instruments."""
    if not is_row(value):
        raise InvalidLot(-1)
    last = -1
    for at, number in enumerate(value):
        if not is_below(number, len(panel[1])) or number <= last:
            raise InvalidLot(at)
        last = number
    return tuple(value)


def instrument(panel, number):
    """The machine of one instrument."""
    maps, instruments = need_panel(panel)
    if not is_below(number, len(instruments)):
        raise InvalidIndex(-1)
    return (maps, instruments[number])


def panel_machine(panel, lot):
    """The machine that reads what a lot of instruments shows."""
    panel = need_panel(panel)
    return machine_of_lot(panel, need_lot(panel, lot))


def machine_of_lot(panel, lot):
    """The same, of things that were looked at."""
    maps, instruments = panel
    shown = [tuple(instruments[number][state] for number in lot) for state in range(len(maps[0]))]
    return (maps, renamed(shown))


def need_panel_late(panel, late):
    panel = need_panel(panel)
    return panel, need_late(machine_of_lot(panel, ()), late)


def panel_needed(panel, late, word):
    """For each instrument the places of its needed news."""
    panel, late = need_panel_late(panel, late)
    maps, instruments = panel
    word = need_word(machine_of_lot(panel, ()), word)
    return tuple(needed_of((maps, shown), late, word) for shown in instruments)


def marks_of_lots(panel, late):
    """Pairs (lot, marks needed), ascending."""
    known = {}
    found = []
    for lot in all_lots(len(panel[1])):
        machine = machine_of_lot(panel, lot)
        if machine[1] not in known:
            known[machine[1]] = marks_of(machine, late)
        found.append((lot, known[machine[1]]))
    return tuple(found)


def panel_marks(panel, late):
    """For each lot of instruments how many marks are needed, or None."""
    panel, late = need_panel_late(panel, late)
    return marks_of_lots(panel, late)


def best_lots(panel, late, marks):
    """The lots for which so many marks are enough and that lie in no other such lot."""
    panel, late = need_panel_late(panel, late)
    if not is_within(marks, 0, MOST_INSTRUMENTS):
        raise InvalidSize("marks")
    enough = [lot for lot, most in marks_of_lots(panel, late) if most is not None and most <= marks]
    return greatest_lots(enough)


def need_pair(machine, late, one, other):
    machine = need_machine(machine)
    late = need_late(machine, late)
    for at, state in enumerate((one, other)):
        if not is_below(state, len(machine[1])):
            raise InvalidState(at)
    if one == other:
        raise InvalidState(1)
    return machine, late


def pair_news(machine, late, one, other):
    """The greatest number of news of a record that have two states as ends, or None."""
    machine, late = need_pair(machine, late, one, other)
    return news_of_pair(Pairs(machine, late), one, other)


def news_of_pair(pairs, one, other):
    """The same, of things that were looked at."""
    # Without late kinds nothing is put in, and there is no need to go through all that may be behind.
    if not pairs.late:
        return 0
    return most_marks(pairs.roads_to(one, other))


def wild_of(machine, late):
    """The wild pairs, of things that were looked at."""
    pairs = Pairs(machine, late)
    return tuple((one, other) for one, other in pairs.pairs if news_of_pair(pairs, one, other) is None)


def wild_pairs(machine, late):
    """The pairs of states that are ends of ever more news, ascending."""
    machine = need_machine(machine)
    return wild_of(machine, need_late(machine, late))


def wild_ring(machine, late, one, other):
    """Words whose ring has news, each time round, that have a wild pair as ends."""
    machine, late = need_pair(machine, late, one, other)
    pairs = Pairs(machine, late)
    if news_of_pair(pairs, one, other) is not None:
        raise Refused(-1)
    roads = pairs.roads_to(one, other)
    _, ring = roads.heights(0, 1)
    return words_of_ring(roads, ring)


def ring_holds(machine, late, one, other, value):
    """Whether any value is such a triple of words."""
    machine, late = need_pair(machine, late, one, other)
    if not is_tuple_of(value, 3) or not all(is_word(machine, word) for word in value):
        return False
    ahead, ring, behind = value
    sets = sets_of(machine, late, (*ahead, *ring))
    pairs = Pairs(machine, late)
    flags = pairs.flags_along(one, other, (*ring, *behind))
    if sets[-1] != sets[len(ahead)] or flags[0] != flags[len(ring)]:
        return False
    ends = pairs.ends_along(one, other, (*ahead, *ring, *behind))
    return any(len(ahead) <= place < len(ahead) + len(ring) for place in ends)


def joined_classes(many, pairs):
    """Classes of numbers below many, those of each pair in one, numbered as first come to."""
    classes = list(range(many))
    for one, other in pairs:
        kept, gone = classes[one], classes[other]
        classes = [kept if name == gone else name for name in classes]
    return renamed(classes)


def shown_classes(machine, late):
    """For each state its class: states joined by wild pairs can't be told apart."""
    machine = need_machine(machine)
    late = need_late(machine, late)
    return joined_classes(len(machine[1]), wild_of(machine, late))


def can_be_shown(machine, late):
    """Whether a machine's readings are alike within each class."""
    machine = need_machine(machine)
    late = need_late(machine, late)
    return keeps_alike(joined_classes(len(machine[1]), wild_of(machine, late)), machine[1])
