"""Promise [44]: which kinds may come late, and machines with told lots of kinds that may not."""

import itertools

from forgetwhen.errors import InvalidLot, InvalidMachine, InvalidMarks, InvalidPlant, InvalidSize
from forgetwhen.least import least_machine
from forgetwhen.plants import kinds_shared
from forgetwhen.prompt import (
    bar_machine, bar_machines, easy_kinds, freedoms, growing_lots, late_lots, level_lots, lots_within, prompt_lots,
    shared_lots,
)
from forgetwhen.ways import marks_needed
from forgetwhen.withdrawn import withdrawn_marks
from tests.support import LAST, ODD_VALUES, RING, VALVE, Case, as_lists, lots_of, mixed_machines, run

SPUN = (((1, 2, 0), (1, 0, 2), (0, 0, 0)), (0, 1, 2))


def some_machines():
    return [VALVE, LAST, RING, SPUN, *mixed_machines(50, 44, states=3, kinds=3)]


def is_level(machine, lot):
    return marks_needed(machine, lot) is not None


def greatest(lots):
    return tuple(sorted(lot for lot in lots if not [other for other in lots if set(lot) < set(other)]))


def least(lots):
    return tuple(sorted(lot for lot in lots if not [other for other in lots if set(other) < set(lot)]))


class LotsTest(Case):
    def test_all_lots(self):
        for machine in some_machines():
            lots = list(lots_of(len(machine[0])))
            self.is_just(late_lots(machine), tuple((lot, marks_needed(machine, lot)) for lot in lots))
            level = [lot for lot in lots if is_level(machine, lot)]
            growing = [lot for lot in lots if not is_level(machine, lot)]
            every = range(len(machine[0]))
            self.is_just(level_lots(machine), greatest(level))
            self.is_just(growing_lots(machine), least(growing))
            left = [tuple(kind for kind in every if kind not in lot) for lot in level]
            self.is_just(prompt_lots(machine), least(left))
            # All kinds may come late exactly if for each kind all others may.
            self.assertNotIn(tuple(every), growing_lots(machine))

    def test_lots_within(self):
        for machine in some_machines():
            lots = list(lots_of(len(machine[0])))
            for marks in range(13):
                enough = [
                    lot for lot in lots if is_level(machine, lot) and marks_needed(machine, lot) <= marks
                ]
                self.is_just(lots_within(machine, marks), greatest(enough))
            self.is_just(lots_within(machine, 0), (easy_kinds(machine),))

    def test_marks(self):
        for marks in (13, -1, True, False, None, "1", (1,)):
            self.refuses(InvalidMarks, -1, lots_within, VALVE, marks)

    def test_easy_kinds(self):
        for machine in some_machines():
            small = least_machine(machine)
            states = range(len(small[1]))
            every = range(len(small[0]))
            self.is_just(easy_kinds(machine), tuple(
                kind for kind in every
                if all(run(small, s, (kind, k)) == run(small, s, (k, kind)) for k in every for s in states)
            ))
        # Easy in the least machine alone.
        self.is_just(easy_kinds((((1, 0, 2), (2, 2, 2)), (5, 5, 5))), (0, 1))

    def test_plain_ones(self):
        self.is_just(late_lots(VALVE), (((), 0), ((0,), 1), ((1,), None), ((0, 1), None)))
        self.is_just(late_lots((((0,),) * 3, (0,)))[:5], (((), 0), ((0,), 0), ((1,), 0), ((2,), 0), ((0, 1), 0)))
        self.is_just(level_lots(VALVE), ((0,),))
        self.is_just(growing_lots(VALVE), ((1,),))
        self.is_just(prompt_lots(VALVE), ((1,),))
        self.is_just(growing_lots(LAST), ())
        self.is_just(level_lots(LAST), ((0, 1),))
        self.is_just(prompt_lots(LAST), ((),))


class FreedomsTest(Case):
    def test_all_pairs(self):
        for machine in some_machines():
            pairs = [
                pair for pair in itertools.product(lots_of(len(machine[0])), repeat=2)
                if withdrawn_marks(machine, *pair) is not None
            ]
            right = tuple(sorted(
                pair for pair in pairs
                if not [other for other in pairs if other != pair and all(set(a) <= set(b) for a, b in zip(pair, other))]
            ))
            self.is_just(freedoms(machine), right)

    def test_plain_ones(self):
        self.is_just(freedoms(VALVE), (((0,), (0,)),))
        self.is_just(freedoms(LAST), (((0, 1), ()),))


class BarMachineTest(Case):
    def test_entry_by_entry(self):
        for kinds in (2, 3, 4):
            for many in range(1, kinds):
                for lot in itertools.combinations(range(kinds), many):
                    self.is_just(bar_machine(kinds, list(lot)), self.by_words(kinds, lot))
                    self.is_just(growing_lots(bar_machine(kinds, lot)), (lot,))

    def by_words(self, kinds, lot):
        """The machine as the document tells it."""
        bar = min(set(range(kinds)) - set(lot))
        many = len(lot)
        states = 4 if many == 1 else many + 2
        maps = []
        for kind in range(kinds):
            one = list(range(states))
            if many == 1 and kind == bar:
                one[0], one[1] = 1, 0
            elif many == 1 and kind == lot[0]:
                one = [2, 3, 3, 3]
            elif many > 1 and kind == bar:
                one = [state if state in (0, many) else many + 1 for state in one]
            elif many > 1 and kind in lot:
                one = [state + 1 if state == lot.index(kind) else many + 1 for state in one]
            maps.append(tuple(one))
        shown = (0, 0, 1, 0) if many == 1 else tuple(int(state == many) for state in range(states))
        return (tuple(maps), shown)

    def test_plain_ones(self):
        self.is_just(bar_machine(2, (0,)), (((2, 3, 3, 3), (1, 0, 2, 3)), (0, 0, 1, 0)))
        self.is_just(bar_machine(3, (0, 2)), (((1, 3, 3, 3), (0, 3, 2, 3), (3, 2, 3, 3)), (0, 0, 1, 0)))
        self.is_just(
            bar_machine(4, (0, 1)), (((1, 3, 3, 3), (3, 2, 3, 3), (0, 3, 2, 3), (0, 1, 2, 3)), (0, 0, 1, 0))
        )

    def test_errors(self):
        for kinds in (1, 5, 0, -1, True, None, "2", (2,)):
            self.refuses(InvalidSize, "kinds", bar_machine, kinds, 3)
            self.refuses(InvalidSize, "kinds", bar_machines, kinds, 3)
        for lot in (None, 3, (), (0, 1, 2), (1, 0), (0, 0), (3,), (-1,), (True,), (None,), "0", {0: 1}, (0, 1, 3)):
            self.refuses(InvalidLot, -1, bar_machine, 3, lot)
        for value in ODD_VALUES:
            self.refuses(InvalidLot, -1, bar_machine, 3, value)
        self.is_just(len(bar_machine(3, [1])[0]), 3)


class BarMachinesTest(Case):
    def test_families(self):
        for kinds in (2, 3):
            lots = [lot for lot in lots_of(kinds) if 0 < len(lot) < kinds]
            for many in range(len(lots) + 1):
                for family in itertools.permutations(lots, many):
                    wrong = [
                        at for at, lot in enumerate(family)
                        if [other for other in family[:at] if set(lot) <= set(other) or set(other) <= set(lot)]
                    ]
                    if wrong:
                        self.refuses(InvalidLot, wrong[0], bar_machines, kinds, family)
                    else:
                        machines = bar_machines(kinds, as_lists(family))
                        self.is_just(machines, tuple(bar_machine(kinds, lot) for lot in family))
                        if machines:
                            self.is_just(shared_lots(machines), tuple(sorted(family)))

    def test_whole(self):
        six = tuple(itertools.combinations(range(4), 2))
        self.is_just(shared_lots(bar_machines(4, six)), six)
        self.refuses(InvalidLot, -1, bar_machines, 4, (*six, (0,)))
        self.is_just(bar_machines(2, []), ())
        for value in (None, 3, "01", {0: 1}):
            self.refuses(InvalidLot, -1, bar_machines, 3, value)

    def test_first_wrong_lot(self):
        for odd in (None, 3, (), (0, 1, 2), (1, 0), (3,), (True,), (1,), (1, 2), "0"):
            self.refuses(InvalidLot, 1, bar_machines, 3, ((1,), odd, odd))
        self.refuses(InvalidLot, 1, bar_machines, 3, [(1, 2), (2,), 3])
        self.refuses(InvalidLot, 2, bar_machines, 3, [(0,), (1,), (0, 1)])


class SharedLotsTest(Case):
    def test_side_by_side(self):
        machines = [machine for machine in mixed_machines(60, 45, states=2, kinds=2) if len(machine[0]) == 2]
        for one, other in zip(machines, machines[1:]):
            growing = [lot for lot in lots_of(2) if not (is_level(one, lot) and is_level(other, lot))]
            self.is_just(shared_lots([one, other]), least(growing))
            self.is_just(shared_lots((one, other, one)), least(growing))
            self.is_just(shared_lots((one,)), growing_lots(one))
            self.is_just(growing_lots(kinds_shared(one, other)), least(growing))

    def test_errors(self):
        for value in (None, 3, (), (VALVE,) * 7, "ab"):
            self.refuses(InvalidPlant, -1, shared_lots, value)
        for odd in (None, 3, (), SPUN, (((0,),), (0,)), (((0, 2), (0, 0)), (0, 1)), "ab"):
            self.refuses(InvalidPlant, 1, shared_lots, (VALVE, odd, odd))
        self.refuses(InvalidPlant, 0, shared_lots, (3, VALVE))
        self.is_just(shared_lots([VALVE] * 6), ((1,),))
        self.refuses(InvalidMachine, -1, growing_lots, 3)
