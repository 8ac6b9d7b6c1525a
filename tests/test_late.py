"""The opening words of chapter 6, and promise [31]."""

import itertools

from forgetwhen.court import loops_forget
from forgetwhen.errors import InvalidMachine, InvalidSize
from forgetwhen.late import late_fault, late_fault_holds, most_kept, steep_machine, steep_word
from forgetwhen.least import is_least, least_machine, nth_machine
from forgetwhen.maps import all_maps
from forgetwhen.needed import needed_news
from tests.support import (
    LAST, LATCH, ODD_VALUES, VALVE, Case, all_words, as_lists, changed_papers, mixed_machines, run,
)
from tests.test_court import MAPS_60, MAPS_61

CHANGING = (((1, 0), (0, 1)), (0, 1))


def least_ones(seed, count):
    for machine in mixed_machines(count, seed, 3, 2, 2):
        yield least_machine(machine)


def by_map(machine, *words):
    """The map of several words, one behind another."""
    whole = [kind for word in words for kind in word]
    return [run(machine, state, whole) for state in range(len(machine[1]))]


def is_fault(machine, value):
    """Whether a value of the right form is a fault, word by word."""
    name, one, two, three = value
    if name == "parted":
        if by_map(machine, one, one) != by_map(machine, one):
            return False
        return by_map(machine, one, two, three, one) != by_map(machine, one, two, one, three, one)
    f = (*one, *two)
    if by_map(machine, f, f) != by_map(machine, f) or name != "bound":
        return False
    if by_map(machine, f, one, f) != by_map(machine, one) or by_map(machine, f, two, f) != by_map(machine, two):
        return False
    return by_map(machine, one, three, f) != by_map(machine, f, three, one)


def has_form(machine, value):
    if not isinstance(value, tuple) or len(value) != 4 or value[0] not in ("parted", "bound"):
        return False
    kinds = range(len(machine[0]))
    return all(isinstance(word, tuple) for word in value[1:]) and all(
        isinstance(kind, int) and kind is not True and kind in kinds for word in value[1:] for kind in word
    )


class FaultTest(Case):
    def test_examples(self):
        self.assertIs(late_fault((((0,),), (7,))), None)
        self.assertIs(late_fault(CHANGING), None)
        self.assertIs(late_fault(LATCH) is None, loops_forget(LATCH, (0, 1)))
        self.assertIs(late_fault_holds(LAST, ("parted", (), (0,), (1,))), False)
        self.assertIs(late_fault_holds(LAST, late_fault(LAST) or ()), late_fault(LAST) is not None)
        self.assertIs(late_fault_holds(VALVE, late_fault(VALVE)), True)
        # A turn that is undone by another one goes past no closing.
        self.assertIs(late_fault_holds(VALVE, ("bound", (0,), (0,), (1,))), True)
        self.assertIs(late_fault_holds(VALVE, ("bound", (0,) * 501, (0,) * 501, (1,) * 500)), True)
        self.assertIs(late_fault_holds(VALVE, ("bound", (0,), (0,), (0,))), False)
        self.assertIs(late_fault_holds(VALVE, ("bound", (0,), (0, 0), (1,))), False)
        self.assertIs(late_fault_holds(VALVE, ("parted", (1,), (0,), (0,))), False)

    def test_both_kinds(self):
        told = {"parted": 0, "bound": 0, None: 0}
        for machine in least_ones(3101, 400):
            fault = late_fault(machine)
            told[fault and fault[0]] += 1
            self.assertIs(fault is None, loops_forget(machine, tuple(range(len(machine[0])))))
            if fault is not None:
                self.assertTrue(has_form(machine, fault) and is_fault(machine, fault))
                self.assertIs(late_fault_holds(machine, fault), True)
        self.assertGreater(min(told.values()), 4)

    def test_none_by_force(self):
        """Where no fault is told, none of short words holds."""
        for machine in least_ones(3102, 60):
            if late_fault(machine) is not None or len(all_maps(machine)) > 8:
                continue
            words = [word for word, _ in all_maps(machine)]
            for three in itertools.product(words, repeat=3):
                self.assertFalse(is_fault(machine, ("parted", *three)))
                self.assertFalse(is_fault(machine, ("bound", *three)))
                self.assertIs(late_fault_holds(machine, ("bound", *three)), False)

    def test_faults_by_force(self):
        for machine in list(least_ones(3103, 40))[:12]:
            for name in ("parted", "bound"):
                for three in itertools.product(list(all_words(len(machine[0]), 2)), repeat=3):
                    value = (name, *three)
                    self.assertIs(late_fault_holds(machine, value), is_fault(machine, value))

    def test_changed_faults(self):
        for machine in list(least_ones(3104, 60))[:25]:
            fault = late_fault(machine)
            for value in changed_papers(fault or ("parted", (0,), (0,), (0,))):
                wanted = has_form(machine, value) and is_fault(machine, value)
                self.assertIs(late_fault_holds(machine, value), wanted, value)
        for value in ODD_VALUES:
            self.assertIs(late_fault_holds(VALVE, value), False)
        self.assertIs(late_fault_holds(VALVE, ("bound", (False,), (0,), (1,))), False)
        self.assertIs(late_fault_holds(VALVE, ("bound", [0], (0,), (1,))), False)

    def test_sizes(self):
        self.assertEqual(len(all_maps(MAPS_60)), 60)
        late_fault(MAPS_60)
        self.refuses(InvalidSize, "maps", late_fault, MAPS_61)
        # Whoever judges a fault does not go through all maps.
        self.assertIs(late_fault_holds(MAPS_61, ()), False)

    def test_machines_that_are_not_least(self):
        for call in (late_fault, lambda machine: late_fault_holds(machine, ())):
            self.refuses(InvalidMachine, -1, call, (((1, 2, 1), (0, 0, 0)), (0, 1, 0)))
            self.refuses(InvalidMachine, 0, call, (((2, 0), (0, 0)), (0, 1)))
        self.is_just(late_fault(as_lists(VALVE)), late_fault(VALVE))


class MostKeptTest(Case):
    def test_numbers(self):
        self.is_just([most_kept(states) for states in range(1, 9)], [0, 1, 2, 4, 6, 8, 10, 12])
        for call in (most_kept, steep_machine, steep_word):
            for states in (0, 9, -1, True, None, "3", (3,), 10 ** 9):
                self.refuses(InvalidSize, "states", call, states)
            self.is_just(call(states=4), call(4))

    def test_steep_machines(self):
        self.is_just(steep_machine(1), (((0,), (0,)), (0,)))
        self.is_just(steep_machine(2), (((0, 0), (1, 1)), (0, 1)))
        self.is_just(steep_machine(3), (((1, 1, 2), (0, 2, 2)), (0, 1, 2)))
        self.is_just([steep_word(states) for states in (1, 2, 3)], [(), (1,), (1, 0)])
        for states in range(4, 9):
            m = states
            first = [0 if x == 0 else m - 1 if x in (m - 2, m - 1) else x + 1 for x in range(m)]
            second = [m - 1 if x in (m - 3, m - 1) else x if x == m - 2 else x + 1 for x in range(m)]
            self.is_just(steep_machine(states), ((tuple(first), tuple(second)), tuple(range(m))))
            self.is_just(steep_word(states), (0,) * (m - 2) + (1,) * (m - 2))

    def test_all_news_are_needed(self):
        for states in range(1, 9):
            word = steep_word(states)
            self.is_just(len(word), most_kept(states))
            self.is_just(needed_news(steep_machine(states), (0, 1), word), tuple(range(len(word))))

    def test_loops_of_steep_machines_forget(self):
        for states in range(1, 5):
            self.assertIs(loops_forget(least_machine(steep_machine(states)), (0, 1)), True)

    def test_no_record_needs_more(self):
        """Among all machines of two or three states that are all told apart, and two kinds, whose loops forget when."""
        machines = [nth_machine(2, 2, 2, number) for number in range(64)]
        machines += [(maps, (0, 1, 2)) for maps in itertools.product(itertools.product(range(3), repeat=3), repeat=2)]
        most = {2: 0, 3: 0}
        for machine in machines:
            late = tuple(range(len(machine[0])))
            if not is_least(machine) or not loops_forget(machine, late) or len(machine[1]) < 2:
                continue
            for word in all_words(len(late), 4):
                needed = len(needed_news(machine, late, word))
                self.assertLessEqual(needed, most_kept(len(machine[1])))
                most[len(machine[1])] = max(most[len(machine[1])], needed)
        self.is_just(most, {2: 1, 3: 2})
