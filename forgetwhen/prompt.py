"""Which kinds may come late, and which are to be made prompt; machines with told lots of kinds that may not."""

from forgetwhen.checks import is_below, is_lot_below, is_row_within, is_within
from forgetwhen.errors import InvalidLot, InvalidMachine, InvalidMarks, InvalidPlant, InvalidSize
from forgetwhen.least import least_machine
from forgetwhen.lots import all_lots, greatest_lots, is_within_lot, least_lots
from forgetwhen.machines import MOST_KINDS, need_machine, then
from forgetwhen.ways import marks_of
from forgetwhen.withdrawn import back_of, both_lots

MOST_ASKED = 12
MOST_LOTS = 6


def marks_by_lots(machine):
    """For each lot of kinds how many marks are needed if it comes late, or None, of a machine that was looked at."""
    least = least_machine(machine)
    return {lot: marks_of(least, lot) for lot in all_lots(len(machine[0]))}


def level_of(machine):
    """The lots that may come late for a number of marks."""
    return [lot for lot, most in marks_by_lots(machine).items() if most is not None]


def growing_of(machine):
    """The lots that may not."""
    return [lot for lot, most in marks_by_lots(machine).items() if most is None]


def late_lots(machine):
    """Pairs (lot, marks needed if it comes late, or None), lots of fewer kinds first."""
    marks = marks_by_lots(need_machine(machine))
    ordered = sorted([(len(lot), lot) for lot in marks])
    return tuple((lot, marks[lot]) for _, lot in ordered)


def level_lots(machine):
    """The greatest lots that may come late for a number of marks."""
    return greatest_lots(level_of(need_machine(machine)))


def growing_lots(machine):
    """The least lots that may not come late for any number of marks."""
    return least_lots(growing_of(need_machine(machine)))


def lots_within(machine, marks):
    """The greatest lots that may come late for so many marks."""
    machine = need_machine(machine)
    if not is_below(marks, MOST_ASKED + 1):
        raise InvalidMarks(-1)
    enough = [lot for lot, most in marks_by_lots(machine).items() if most is not None and most <= marks]
    return greatest_lots(enough)


def prompt_lots(machine):
    """The least lots that are to be made prompt so that all other kinds may come late."""
    machine = need_machine(machine)
    every = tuple(range(len(machine[0])))
    left = [tuple(kind for kind in every if kind not in lot) for lot in level_of(machine)]
    return least_lots(sorted(left))


def easy_kinds(machine):
    """The kinds that lead to the same on either side of each kind."""
    maps, _ = least_machine(machine)
    return tuple(kind for kind, one in enumerate(maps) if all(then(one, other) == then(other, one) for other in maps))


def freedoms(machine):
    """The greatest pairs (late, gone) of lots for which a number of marks is enough."""
    machine = need_machine(machine)
    level = level_of(machine)
    backs = [kind for kind in range(len(machine[0])) if back_of(machine, kind) is not None]
    lots = all_lots(len(machine[0]))
    pairs = [
        (late, gone) for late in lots for gone in lots
        if all(kind in backs for kind in gone) and both_lots(late, gone) in level
    ]
    return tuple(pair for pair in pairs if not any(is_within_pair(pair, other) for other in pairs))


def is_within_pair(pair, other):
    """Whether a pair of lots lies, both parts, within another one."""
    return pair != other and all(one == lot or is_within_lot(one, lot) for one, lot in zip(pair, other))


def need_kinds(kinds):
    if not is_within(kinds, 2, MOST_KINDS):
        raise InvalidSize("kinds")
    return kinds


def is_bar(kinds, value):
    """Whether any value is a lot of some kinds, not of none and not of all."""
    return is_row_within(value, 1, kinds - 1) and is_lot_below(value, kinds)


def bar_machine(kinds, lot):
    """A machine for which just the lots with this one within may not come late."""
    kinds = need_kinds(kinds)
    if not is_bar(kinds, lot):
        raise InvalidLot(-1)
    return bar_of(kinds, tuple(lot))


def bar_of(kinds, lot):
    """The same, of things that were looked at."""
    bar = [kind for kind in range(kinds) if kind not in lot][0]
    many = len(lot)
    if many == 1:
        same = (0, 1, 2, 3)
        told = {bar: (1, 0, 2, 3), lot[0]: (2, 3, 3, 3)}
        shown = (0, 0, 1, 0)
    else:
        same = tuple(range(many + 2))
        told = {kind: map_to(many, {step: step + 1}) for step, kind in enumerate(lot)}
        told[bar] = map_to(many, {0: 0, many: many})
        shown = (*(0,) * many, 1, 0)
    return (tuple(told.get(kind, same) for kind in range(kinds)), shown)


def map_to(many, led):
    """The map that leads states as told, all others to the last one, many + 1."""
    return tuple(led.get(state, many + 1) for state in range(many + 2))


def bar_machines(kinds, lots):
    """Machines that, side by side, have just these lots as the least that may not come late."""
    kinds = need_kinds(kinds)
    if not is_row_within(lots, 0, MOST_LOTS):
        raise InvalidLot(-1)
    told = []
    for at, value in enumerate(lots):
        if not is_bar(kinds, value):
            raise InvalidLot(at)
        lot = tuple(value)
        if any(lot == other or is_within_lot(lot, other) or is_within_lot(other, lot) for other in told):
            raise InvalidLot(at)
        told.append(lot)
    return tuple(bar_of(kinds, lot) for lot in told)


def need_plants(value):
    """One to six machines of as many kinds."""
    if not is_row_within(value, 1, MOST_LOTS):
        raise InvalidPlant(-1)
    machines = []
    for at, plant in enumerate(value):
        try:
            machine = need_machine(plant)
        except InvalidMachine:
            raise InvalidPlant(at) from None
        if machines and len(machine[0]) != len(machines[0][0]):
            raise InvalidPlant(at)
        machines.append(machine)
    return tuple(machines)


def shared_lots(machines):
    """The least lots that may not come late for some of these machines."""
    growing = []
    for machine in need_plants(machines):
        growing.extend(growing_of(machine))
    return least_lots(sorted(set(growing)))
