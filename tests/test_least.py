"""Promises [7] and [8]."""

from forgetwhen.errors import InvalidIndex, InvalidMachine, InvalidSize, InvalidState
from forgetwhen.least import (
    alike_holds, alike_paper, is_least, least_machine, least_names, machine_count, machine_number, nth_machine,
    parting_word, rounds,
)
from forgetwhen.machines import reach_words, word_readings
from tests.support import (
    EIGHT, LATCH, ODD_VALUES, RING, VALVE, Case, Chance, all_words, as_lists, changed_papers, mixed_machines, run,
)

ONE = (((0,),), (7,))
# States 0 and 2 are alike; no word leads to state 3.
TWINS = (((1, 2, 1, 0), (0, 0, 0, 3)), (0, 1, 0, 1))
CHAIN = (((1, 2, 3, 4, 5, 6, 7, 7),), (0, 0, 0, 0, 0, 0, 0, 1))


def parted_by_force(machine, one, other):
    for word in all_words(len(machine[0]), max(0, len(machine[1]) - 2)):
        if machine[1][run(machine, one, word)] != machine[1][run(machine, other, word)]:
            return word
    return None


def classes_by_force(machine, longest):
    """Classes of states that no word of at most so many kinds parts, numbered as first come to."""
    words = list(all_words(len(machine[0]), longest))
    names = {}
    row = []
    for state in range(len(machine[1])):
        key = tuple(machine[1][run(machine, state, word)] for word in words)
        row.append(names.setdefault(key, len(names)))
    return tuple(row)


class RoundsTest(Case):
    def test_examples(self):
        self.is_just(rounds(ONE), ((0,),))
        self.is_just(rounds(RING), ((0, 0, 0, 1), (0, 0, 1, 2), (0, 1, 2, 3)))
        self.is_just(rounds(TWINS), ((0, 1, 0, 1), (0, 1, 0, 2)))
        self.is_just(rounds((((1, 0),), (5, 5))), ((0, 0),))
        self.is_just(rounds((((1, 0),), (5, 3))), ((0, 1),))
        self.is_just(len(rounds(CHAIN)), 7)

    def test_by_force(self):
        for machine in mixed_machines(80, 3):
            rows = rounds(machine)
            for at, row in enumerate(rows):
                self.is_just(row, classes_by_force(machine, at))
            self.is_just(classes_by_force(machine, len(rows)), rows[-1])
            for ahead, row in zip(rows, rows[1:]):
                self.assertGreater(len(set(row)), len(set(ahead)))

    def test_states_that_no_word_leads_to(self):
        self.is_just(rounds((((0, 0, 2), (0, 0, 1)), (0, 0, 1))), ((0, 0, 1),))
        self.is_just(rounds((((0, 2, 2),), (0, 0, 1))), ((0, 0, 1), (0, 1, 2)))


class PartingTest(Case):
    def test_examples(self):
        self.is_just(parting_word(RING, 0, 1), (0, 0))
        self.is_just(parting_word(RING, 0, 3), ())
        self.is_just(parting_word(TWINS, 0, 2), None)
        self.is_just(parting_word(TWINS, 1, 3), parted_by_force(TWINS, 1, 3))
        self.is_just(parting_word(ONE, 0, 0), None)
        self.is_just(parting_word(CHAIN, 0, 1), (0,) * 6)

    def test_by_force(self):
        for machine in mixed_machines(80, 4):
            rows = rounds(machine)
            many = len(machine[1])
            for one in range(many):
                for other in range(many):
                    word = parting_word(machine, one, other)
                    self.is_just(word, parted_by_force(machine, one, other))
                    apart = [at for at, row in enumerate(rows) if row[one] != row[other]]
                    if word is None:
                        self.assertEqual(apart, [])
                    else:
                        self.assertEqual(len(word), apart[0])
                        self.assertLessEqual(len(word), many - 2)

    def test_wrong_states(self):
        for wrong in (-1, 4, True, None, "0", (0,)):
            self.refuses(InvalidState, 0, parting_word, RING, wrong, 0)
            self.refuses(InvalidState, 1, parting_word, RING, 0, wrong)
            self.refuses(InvalidState, 0, parting_word, RING, wrong, wrong)
            self.refuses(InvalidMachine, -1, parting_word, RING[:1], wrong, 0)


class LeastTest(Case):
    def test_examples(self):
        self.is_just(least_machine((((1, 2, 1), (0, 0, 0)), (0, 1, 0))), (((1, 0), (0, 0)), (0, 1)))
        self.is_just(least_names((((1, 2, 1), (0, 0, 0)), (0, 1, 0))), (0, 1, 0))
        self.is_just(least_names(TWINS), (0, 1, 0, None))
        self.is_just(least_machine(TWINS), (((1, 0), (0, 0)), (0, 1)))
        self.is_just(least_names((((3, 1, 1, 2),), (0, 1, 2, 3))), (0, 3, 2, 1))
        self.is_just(least_machine((((3, 1, 1, 2),), (0, 1, 2, 3))), (((1, 2, 3, 3),), (0, 3, 2, 1)))
        self.is_just(least_machine(ONE), ONE)
        self.is_just(least_machine((((1, 0),), (4, 4))), (((0,),), (4,)))

    def test_alike_to_one_that_no_word_leads_to(self):
        self.is_just(least_names((((0, 0), (0, 0)), (1, 1))), (0, None))

    def test_numbering_by_least_words(self):
        for machine in mixed_machines(120, 5):
            words = reach_words(machine)
            classes = rounds(machine)[-1]
            names = least_names(machine)
            best = {}
            for state, word in enumerate(words):
                self.assertEqual(names[state] is None, word is None)
                if word is not None:
                    key = (len(word), word)
                    best[classes[state]] = min(key, best.get(classes[state], key))
            order = sorted(best, key=lambda name: best[name])
            for state, name in enumerate(names):
                if name is not None:
                    self.assertEqual(name, order.index(classes[state]))

    def test_least_machine_shows_the_same(self):
        for machine in mixed_machines(120, 6):
            least = least_machine(machine)
            for word in all_words(len(machine[0]), 4):
                self.is_just(word_readings(least, word), word_readings(machine, word))
            # Its states are all led to and parted two by two, so no machine has fewer.
            self.assertNotIn(None, reach_words(least))
            many = len(least[1])
            for one in range(many):
                for other in range(one):
                    self.assertIsNotNone(parting_word(least, one, other))

    def test_least_machine_is_its_own(self):
        for machine in (ONE, RING, VALVE, TWINS, EIGHT, CHAIN, *mixed_machines(120, 7)):
            least = least_machine(machine)
            self.is_just(least_machine(least), least)
            self.assertIs(is_least(least), True)
            self.assertIs(is_least(as_lists(least)), True)
            self.assertIs(is_least(machine), machine == least)

    def test_is_least(self):
        self.assertIs(is_least(TWINS), False)
        self.assertIs(is_least((((3, 1, 1, 2),), (0, 1, 2, 3))), False)
        self.refuses(InvalidMachine, 0, is_least, (((1,),), (0,)))


class AlikeTest(Case):
    def test_examples(self):
        self.is_just(alike_paper(VALVE, TWINS), ("same", ((0, 0), (0, 2), (1, 1))))
        self.is_just(alike_paper(VALVE, LATCH), ("word", (0, 0)))
        self.is_just(alike_paper(ONE, ONE), ("same", ((0, 0),)))
        self.is_just(alike_paper(ONE, (((0,),), (8,))), ("word", ()))
        self.is_just(alike_paper(CHAIN, (((0,),), (0,))), ("word", (0,) * 7))

    def test_not_as_many_kinds(self):
        for call in (alike_paper, lambda one, other: alike_holds(one, other, ())):
            self.refuses(InvalidSize, "kinds", call, ONE, VALVE)
            self.refuses(InvalidSize, "kinds", call, VALVE, ONE)
            self.refuses(InvalidMachine, -1, call, VALVE, 0)
            self.refuses(InvalidMachine, 1, call, (((0,),), (-1,)), 0)

    def test_papers_are_exact(self):
        for one, other in zip(mixed_machines(150, 8, 3, 2), mixed_machines(150, 9, 3, 2)):
            if len(one[0]) != len(other[0]):
                self.refuses(InvalidSize, "kinds", alike_paper, one, other)
                continue
            apart = None
            pairs = set()
            for word in all_words(len(one[0]), 5):
                pair = (run(one, 0, word), run(other, 0, word))
                pairs.add(pair)
                if apart is None and one[1][pair[0]] != other[1][pair[1]]:
                    apart = word
            wanted = ("same", tuple(sorted(pairs))) if apart is None else ("word", apart)
            self.is_just(alike_paper(one, other), wanted)
            self.assertEqual(apart is None, least_machine(one) == least_machine(other))
            self.assertTrue(apart is None or len(apart) <= len(one[1]) + len(other[1]) - 2)
            self.assertIs(alike_holds(one, other, wanted), True)

    def test_machine_and_its_least_one(self):
        for machine in mixed_machines(60, 10):
            paper = alike_paper(machine, least_machine(machine))
            self.assertEqual(paper[0], "same")
            self.assertIs(alike_holds(machine, least_machine(machine), paper), True)
            self.assertIs(alike_holds(machine, least_machine(machine), ("word", ())), False)

    def test_words_that_hold(self):
        self.assertIs(alike_holds(VALVE, LATCH, ("word", (0, 0))), True)
        self.assertIs(alike_holds(VALVE, LATCH, ("word", (1,) * 500 + (0, 0))), True)
        self.assertIs(alike_holds(VALVE, LATCH, ("word", (0,))), False)
        self.assertIs(alike_holds(VALVE, LATCH, ("word", [0, 0])), False)
        self.assertIs(alike_holds(VALVE, LATCH, ["word", (0, 0)]), False)
        self.assertIs(alike_holds(VALVE, LATCH, ("word", (False, 0))), False)
        self.assertIs(alike_holds(VALVE, LATCH, ("word", (0, 0, 2))), False)
        self.assertIs(alike_holds(VALVE, LATCH, ("word", (0, 0), ())), False)

    def test_pairs_that_hold(self):
        for pairs, holds in (
            (((1, 1), (0, 0), (0, 2)), True),
            (((1, 1), (0, 0), (0, 2), (1, 1)), True),
            (((0, 0), (1, 1)), False),
            (((0, 0), (0, 2), (1, 1), (1, 3)), False),
            (((0, 0), (0, 2), (1, 1), (0, 1)), False),
            (((0, 2), (1, 1)), False),
            ((), False),
            (((0, 0), (0, 2), (1, 1), (0, 4)), False),
            (((0, 0), (0, 2), (1, True)), False),
            (((0, 0), [0, 2], (1, 1)), False),
            ([(0, 0), (0, 2), (1, 1)], False),
            (((0, 0), (0, 2), (1, 1), (1, 1, 0)), False),
        ):
            self.assertIs(alike_holds(VALVE, TWINS, ("same", pairs)), holds, pairs)

    def test_more_pairs_than_words_lead_to(self):
        self.assertIs(alike_holds(TWINS, TWINS, ("same", ((3, 3), (0, 0), (1, 1), (2, 2)))), True)
        self.assertIs(alike_holds(TWINS, TWINS, ("same", ((3, 3), (0, 0), (1, 1)))), False)

    def test_any_value(self):
        for value in ODD_VALUES:
            self.assertIs(alike_holds(VALVE, TWINS, value), False)
        for one, other in ((VALVE, TWINS), (VALVE, LATCH)):
            paper = alike_paper(one, other)
            for value in changed_papers(paper):
                holds = alike_holds(one, other, value)
                self.assertIn(holds, (True, False))
                if has_any_list(value) or has_any_bool(value):
                    self.assertIs(holds, False)

    def test_just_one_kind_of_paper(self):
        self.assertIs(alike_holds(VALVE, LATCH, ("same", ((0, 0), (0, 1), (1, 0), (1, 1)))), False)
        self.assertIs(alike_holds(VALVE, VALVE, ("same", ((0, 0), (1, 1)))), True)


def has_any_list(value):
    return isinstance(value, list) or isinstance(value, tuple) and any(has_any_list(part) for part in value)


def has_any_bool(value):
    return isinstance(value, bool) or isinstance(value, tuple) and any(has_any_bool(part) for part in value)


class NumbersTest(Case):
    def test_counts(self):
        self.is_just(machine_count(1, 1, 1), 1)
        self.is_just(machine_count(2, 2, 2), 64)
        self.is_just(machine_count(3, 2, 5), 27 ** 2 * 125)
        self.is_just(machine_count(8, 4, 100), 8 ** 32 * 100 ** 8)

    def test_all_of_a_size(self):
        for states, kinds, shown in ((2, 2, 2), (2, 1, 3), (1, 2, 7), (3, 1, 2)):
            many = machine_count(states, kinds, shown)
            machines = [nth_machine(states, kinds, shown, number) for number in range(many)]
            self.assertEqual(machines, sorted(set(machines)))
            for number, machine in enumerate(machines):
                self.is_just(machine_number(machine, shown), number)
                self.assertEqual((len(machine[1]), len(machine[0])), (states, kinds))
                self.assertTrue(all(0 <= reading < shown for reading in machine[1]))

    def test_first_and_last(self):
        self.is_just(nth_machine(2, 2, 2, 0), (((0, 0), (0, 0)), (0, 0)))
        self.is_just(nth_machine(2, 2, 2, 63), (((1, 1), (1, 1)), (1, 1)))
        self.is_just(nth_machine(2, 2, 2, 1), (((0, 0), (0, 0)), (0, 1)))
        self.is_just(nth_machine(2, 1, 2, 4), (((0, 1),), (0, 0)))
        last = machine_count(8, 4, 100) - 1
        self.is_just(nth_machine(8, 4, 100, last), (((7,) * 8,) * 4, (99,) * 8))
        self.is_just(machine_number((((7,) * 8,) * 4, (99,) * 8), 100), last)
        self.refuses(InvalidIndex, -1, nth_machine, 8, 4, 100, last + 1)

    def test_there_and_back(self):
        chance = Chance(11)
        for machine in [chance.machine(8, 4, 100) for _ in range(20)] + [EIGHT]:
            number = machine_number(machine, 100)
            self.is_just(nth_machine(8, 4, 100, number), machine)

    def test_wrong_numbers(self):
        for wrong in (-1, 64, True, None, "3", (0,)):
            self.refuses(InvalidIndex, -1, nth_machine, 2, 2, 2, wrong)

    def test_wrong_sizes(self):
        for wrong in (0, -1, True, None, "1", (1,)):
            for call in (machine_count, lambda *sizes: nth_machine(*sizes, None)):
                self.refuses(InvalidSize, "states", call, wrong, wrong, wrong)
                self.refuses(InvalidSize, "kinds", call, 8, wrong, wrong)
                self.refuses(InvalidSize, "shown", call, 8, 4, wrong)
            self.refuses(InvalidSize, "shown", machine_number, VALVE, wrong)
        self.refuses(InvalidSize, "states", machine_count, 9, 5, 101)
        self.refuses(InvalidSize, "kinds", machine_count, 1, 5, 101)
        self.refuses(InvalidSize, "shown", machine_count, 1, 4, 101)

    def test_reading_that_is_not_below(self):
        self.refuses(InvalidSize, "shown", machine_number, EIGHT, 99)
        self.refuses(InvalidSize, "shown", machine_number, EIGHT, 101)
        self.refuses(InvalidSize, "shown", machine_number, VALVE, 1)
        self.is_just(machine_number(VALVE, 2), 0b100001)
        self.is_just(machine_number((((0, 1),), (0, 0)), 1), 1)
        self.refuses(InvalidSize, "shown", machine_number, (((0, 1),), (0, 0)), 0)
        self.refuses(InvalidMachine, 0, machine_number, VALVE[0], 0)
