"""Promises [5] and [6], and what [1] and [2] say of them."""

from forgetwhen.errors import (
    InvalidKind, InvalidLate, InvalidMachine, InvalidMap, InvalidState, InvalidWord,
)
from forgetwhen.machines import (
    machine_sizes, map_then, need_kind, need_late, need_machine, need_map, need_state, need_word, reach_words,
    same_map, word_map, word_readings, word_states,
)
from tests.support import EIGHT, LATCH, ODD_VALUES, RING, VALVE, Case, all_words, as_lists, mixed_machines, run

ONE = (((0,),), (7,))


class NeedMachineTest(Case):
    def test_lists_and_tuples(self):
        for machine in (ONE, VALVE, RING, EIGHT):
            self.is_just(need_machine(machine), machine)
            self.is_just(need_machine(as_lists(machine)), machine)
        mixed = [([1, 0], (0, 0)), [0, 1]]
        self.is_just(need_machine(mixed), VALVE)
        self.assertEqual(mixed, [([1, 0], (0, 0)), [0, 1]])

    def test_result_is_its_own(self):
        told = as_lists(VALVE)
        machine = need_machine(told)
        told[0][0][0] = 5
        told[1].append(3)
        self.is_just(machine, VALVE)

    def test_no_pair_of_such_lengths(self):
        for value in (
            (), ((),), (((0,),),), (((0,),), (0,), 0), ((), (0,)), (((0,),) * 5, (0,)), (((),), ()),
            ((tuple(range(9)),), (0,) * 9), (((0,),), 0), (0, (0,)), ("a", (0,)), (((0,),), "a"), ({0: (0,)}, (0,)),
            ((), (None,)), (((9,),) * 5, (100,)), 5, None, True, "ab", {0: 1, 1: 2},
        ):
            self.refuses(InvalidMachine, -1, need_machine, value)
        for value in ODD_VALUES:
            self.refuses(InvalidMachine, -1, need_machine, value)

    def test_first_wrong_kind(self):
        for wrong in ((0,), (0, 0, 0), (0, 2), (0, -1), (True, 0), (0, False), (0, None), "00", 0, None, (0, "0")):
            self.refuses(InvalidMachine, 0, need_machine, ((wrong, (0, 1)), (0, 1)))
            self.refuses(InvalidMachine, 1, need_machine, (((0, 1), wrong), (0, 1)))
            self.refuses(InvalidMachine, 2, need_machine, (((0, 1), (1, 1), wrong, wrong), (0, 1)))
            self.refuses(InvalidMachine, 0, need_machine, ((wrong, wrong), (100, 1)))
            self.refuses(InvalidMachine, 1, need_machine, ([[0, 1], wrong], [0, True]))

    def test_wrong_reading(self):
        for wrong in (-1, 100, True, False, None, "1", (1,), [0]):
            self.refuses(InvalidMachine, 2, need_machine, (((0, 1), (1, 1)), (0, wrong)))
            self.refuses(InvalidMachine, 1, need_machine, (((0,),), (wrong,)))
        self.is_just(need_machine((((0,),), (99,))), (((0,),), (99,)))

    def test_most_states_and_kinds(self):
        self.is_just(machine_sizes(EIGHT), (8, 4))
        self.is_just(machine_sizes(ONE), (1, 1))
        self.is_just(machine_sizes(as_lists(RING)), (4, 2))
        self.refuses(InvalidMachine, -1, machine_sizes, ((EIGHT[0][0],) * 5, EIGHT[1]))


class NeedPartsTest(Case):
    def test_kind(self):
        for kind in range(4):
            self.is_just(need_kind(EIGHT, kind), kind)
        for value in (-1, 4, True, False, None, "0", (0,), 10 ** 20):
            self.refuses(InvalidKind, -1, need_kind, EIGHT, value)
        self.refuses(InvalidMachine, 0, need_kind, (((1,),), (0,)), 9)

    def test_state(self):
        for state in range(8):
            self.is_just(need_state(EIGHT, state), state)
        for value in (-1, 8, True, False, None, "0", [0]):
            self.refuses(InvalidState, -1, need_state, EIGHT, value)
        self.refuses(InvalidMachine, 1, need_state, (((0,),), (100,)), 9)

    def test_late(self):
        self.is_just(need_late(EIGHT, (3, 0, 2)), (0, 2, 3))
        self.is_just(need_late(EIGHT, [1, 0]), (0, 1))
        self.is_just(need_late(EIGHT, ()), ())
        self.is_just(need_late(EIGHT, (3, 2, 1, 0)), (0, 1, 2, 3))
        told = [2, 1]
        need_late(EIGHT, told)
        self.assertEqual(told, [2, 1])

    def test_wrong_late(self):
        self.refuses(InvalidLate, 1, need_late, EIGHT, (0, 0))
        self.refuses(InvalidLate, 2, need_late, EIGHT, (3, 1, 3, 4))
        self.refuses(InvalidLate, 0, need_late, EIGHT, (4, 1, 1))
        self.refuses(InvalidLate, 1, need_late, EIGHT, (1, True))
        self.refuses(InvalidLate, 0, need_late, EIGHT, (True, 1, 1))
        self.refuses(InvalidLate, 4, need_late, EIGHT, (0, 1, 2, 3, 0))
        self.refuses(InvalidLate, 1, need_late, EIGHT, (0, [0]))
        for value in (None, 0, True, "01", "", {0: 1}):
            self.refuses(InvalidLate, -1, need_late, EIGHT, value)

    def test_word(self):
        self.is_just(need_word(VALVE, [0, 1, 1]), (0, 1, 1))
        self.is_just(need_word(VALVE, ()), ())
        self.is_just(need_word(VALVE, [1] * 400), (1,) * 400)
        self.refuses(InvalidWord, -1, need_word, VALVE, (1,) * 401)
        self.refuses(InvalidWord, -1, need_word, VALVE, (7,) * 401)
        self.refuses(InvalidWord, 399, need_word, VALVE, (1,) * 399 + (2,))
        self.refuses(InvalidWord, 1, need_word, VALVE, (1, 2, 3))
        self.refuses(InvalidWord, 0, need_word, VALVE, (True, 1))
        self.refuses(InvalidWord, 2, need_word, VALVE, (0, 1, (0,), -1))
        for value in (None, 0, True, "01", ""):
            self.refuses(InvalidWord, -1, need_word, VALVE, value)

    def test_map(self):
        self.is_just(need_map(RING, [3, 3, 0, 1]), (3, 3, 0, 1))
        for value in ((), (0, 0, 0), (0,) * 5, (9,) * 5, "0000", None, 4, True):
            self.refuses(InvalidMap, -1, need_map, RING, value)
        self.refuses(InvalidMap, 1, need_map, RING, (0, 4, -1, 0))
        self.refuses(InvalidMap, 3, need_map, RING, (0, 3, 3, True))
        self.refuses(InvalidMap, 0, need_map, RING, ([], 3, 3, True))


class LeadingTest(Case):
    def test_maps(self):
        self.is_just(same_map(RING), (0, 1, 2, 3))
        self.is_just(same_map(ONE), (0,))
        self.is_just(map_then(RING, (1, 2, 3, 0), [0, 0, 2, 2]), (0, 2, 2, 0))
        self.is_just(map_then(RING, (0, 0, 2, 2), (1, 2, 3, 0)), (1, 1, 3, 3))
        self.refuses(InvalidMap, 0, map_then, RING, (4, 0, 0, 0), (0, 0))
        self.refuses(InvalidMap, -1, map_then, RING, (0, 0, 0, 0), (0, 0))

    def test_words(self):
        for machine in (ONE, VALVE, RING, *mixed_machines(40, 1)):
            states = len(machine[1])
            for word in all_words(len(machine[0]), 4):
                self.is_just(word_map(machine, word), tuple(run(machine, s, word) for s in range(states)))
                behind = tuple(run(machine, 0, word[:many]) for many in range(len(word) + 1))
                self.is_just(word_states(machine, word), behind)
                self.is_just(word_readings(machine, word), tuple(machine[1][s] for s in behind))

    def test_long_words(self):
        self.assertEqual(word_states(EIGHT, (0,) * 400)[-1], 0)
        self.assertEqual(len(word_readings(EIGHT, (0,) * 400)), 401)
        self.is_just(word_map(EIGHT, (0,) * 399), (7, 0, 1, 2, 3, 4, 5, 6))
        for call in (word_map, word_states, word_readings):
            self.refuses(InvalidWord, -1, call, EIGHT, (0,) * 401)
            self.refuses(InvalidWord, 1, call, EIGHT, (0, 4))
            self.refuses(InvalidMachine, -1, call, EIGHT[:1], (0, 4))

    def test_reach_words(self):
        self.is_just(reach_words(RING), ((), (0,), (0, 0), (0, 0, 0)))
        self.is_just(reach_words((((2, 1, 2), (2, 0, 0)), (0, 1, 2))), ((), None, (0,)))
        self.is_just(reach_words(ONE), ((),))
        self.is_just(reach_words((((0, 1), (0, 1)), (0, 1))), ((), None))
        self.is_just(reach_words(LATCH), ((), (0,)))
        self.is_just(reach_words(EIGHT)[1:], ((0,), (0, 0), (0, 0, 0), (0, 0, 0, 0), (0, 0, 3), (0, 3), (3,)))

    def test_reach_words_by_force(self):
        for machine in mixed_machines(120, 2):
            found = [None] * len(machine[1])
            for word in all_words(len(machine[0]), len(machine[1]) - 1):
                state = run(machine, 0, word)
                if found[state] is None:
                    found[state] = word
            self.is_just(reach_words(machine), tuple(found))
