"""Promises [25], [26] and the opening words of chapter 6."""

from forgetwhen.errors import InvalidIndex, InvalidMachine, InvalidMap, InvalidSize, Refused
from forgetwhen.least import is_least, least_machine
from forgetwhen.machines import map_then, same_map, word_map
from forgetwhen.maps import all_maps, idempotents, map_number, power_ring, still_power, undone_at
from tests.support import LATCH, ODD_VALUES, RING, VALVE, Case, all_words, as_lists, mixed_machines

CYCLE = (((1, 2, 3, 4, 5, 6, 7, 0),), (0, 1, 2, 3, 4, 5, 6, 7))
LEAD = (((1, 2, 3, 4, 5, 6, 7, 7),), (0, 1, 2, 3, 4, 5, 6, 7))
NOT_LEAST = (((1, 2, 1), (0, 0, 0)), (0, 1, 0))
# All maps of four states: a turn, a swap, and one that joins two states.
ALL_OF_FOUR = (((1, 2, 3, 0), (1, 0, 2, 3), (0, 0, 2, 3)), (0, 1, 2, 3))
ALL_OF_FIVE = (((1, 2, 3, 4, 0), (1, 0, 2, 3, 4), (0, 0, 2, 3, 4)), (0, 1, 2, 3, 4))
ALL_OF_THREE = (((1, 2, 0), (1, 0, 2), (0, 0, 2)), (0, 1, 2))
# Just 300 maps, and one more than are let.
MAPS_300 = (((1, 1, 4, 3, 1, 1), (2, 3, 3, 3, 5, 5), (1, 0, 4, 5, 1, 5)), (0, 1, 5, 3, 2, 4))
MAPS_301 = (((1, 2, 3, 3, 2, 4), (2, 0, 1, 4, 5, 0)), (0, 2, 1, 4, 5, 3))


def least_ones(seed, count=60, states=3, kinds=2):
    return [least_machine(machine) for machine in mixed_machines(count, seed, states, kinds)]


def square(one):
    return tuple(one[state] for state in one)


class AllMapsTest(Case):
    def test_examples(self):
        self.is_just(all_maps(VALVE), (((), (0, 1)), ((0,), (1, 0)), ((1,), (0, 0)), ((1, 0), (1, 1))))
        self.is_just(all_maps((((0,),), (3,))), (((), (0,)),))
        self.is_just(all_maps(as_lists(LATCH)), (((), (0, 1)), ((0,), (1, 1)), ((1,), (0, 0))))
        self.assertEqual(len(all_maps(ALL_OF_FOUR)), 256)
        self.assertEqual(len(all_maps(ALL_OF_THREE)), 27)
        self.assertEqual([len(word) for word, _ in all_maps(CYCLE)], list(range(8)))

    def test_by_force(self):
        for machine in least_ones(30):
            found = {}
            for word in all_words(len(machine[0]), 8):
                found.setdefault(word_map(machine, word), word)
            told = all_maps(machine)
            self.is_just(told[0], ((), same_map(machine)))
            if max(len(word) for word, _ in told) < 8:
                self.is_just(told, tuple((word, one) for one, word in found.items()))
            order = [(len(word), word) for word, _ in told]
            self.assertEqual(order, sorted(order))
            # Whatever a kind makes of a map is a map again.
            maps = [one for _, one in told]
            self.assertEqual(len(set(maps)), len(maps))
            for one in maps:
                for kind in machine[0]:
                    self.assertIn(map_then(machine, one, kind), maps)

    def test_map_number(self):
        for machine in least_ones(31, 20):
            told = [one for _, one in all_maps(machine)]
            for number, one in enumerate(told):
                self.is_just(map_number(machine, one), number)
            for first in range(len(machine[1])):
                other = (first,) * len(machine[1])
                self.is_just(map_number(machine, other), told.index(other) if other in told else None)
        self.is_just(map_number(VALVE, [1, 1]), 3)
        self.is_just(map_number(LATCH, (1, 0)), None)

    def test_idempotents(self):
        self.is_just(idempotents(VALVE), (0, 2, 3))
        self.is_just(idempotents(CYCLE), (0,))
        for machine in least_ones(32):
            told = [one for _, one in all_maps(machine)]
            wanted = tuple(number for number, one in enumerate(told) if square(one) == one)
            self.is_just(idempotents(machine), wanted)

    def test_too_many_maps(self):
        self.assertTrue(is_least(ALL_OF_FIVE))
        self.refuses(InvalidSize, "maps", all_maps, ALL_OF_FIVE)
        self.refuses(InvalidSize, "maps", idempotents, ALL_OF_FIVE)
        self.refuses(InvalidSize, "maps", map_number, ALL_OF_FIVE, (0, 1, 2, 3, 4))
        self.refuses(InvalidSize, "maps", undone_at, ALL_OF_FIVE, 0)
        self.refuses(InvalidMap, 2, map_number, ALL_OF_FIVE, (0, 1, 5, 3, 4))
        for number in (-1, None, 1, 9999):
            self.refuses(InvalidSize, "maps", undone_at, ALL_OF_FIVE, number)

    def test_just_so_many_maps(self):
        told = all_maps(MAPS_300)
        self.assertEqual(len({one for _, one in told}), 300)
        self.is_just(map_number(MAPS_300, told[299][1]), 299)
        self.assertEqual(len(idempotents(MAPS_300)), len([one for _, one in told if square(one) == one]))
        last = idempotents(MAPS_300)[-1]
        self.assertIn((last, last), undone_at(MAPS_300, last))
        self.refuses(InvalidSize, "maps", all_maps, MAPS_301)
        self.refuses(InvalidSize, "maps", map_number, MAPS_301, (0, 1, 2, 3, 4, 5))
        self.refuses(InvalidSize, "maps", idempotents, MAPS_301)
        self.refuses(InvalidSize, "maps", undone_at, MAPS_301, 0)


class NoLeastMachineTest(Case):
    def test_no_least_machine(self):
        unreached = (((0, 0),), (0, 1))
        renamed = (((2, 1, 1),), (0, 1, 2))
        for machine in (NOT_LEAST, unreached, renamed):
            for call, others in (
                (all_maps, ()), (map_number, (None,)), (idempotents, ()), (power_ring, (None,)),
                (still_power, (None,)), (undone_at, (None,)),
            ):
                self.refuses(InvalidMachine, -1, call, machine, *others)
        for call, others in ((all_maps, ()), (map_number, (None,)), (power_ring, (None,)), (undone_at, (None,))):
            self.refuses(InvalidMachine, 1, call, (((1, 2, 1), (0, 0, 3)), (0, 1, 0)), *others)
            self.refuses(InvalidMachine, 2, call, (((1, 2, 1), (0, 0, 0)), (0, 1, 100)), *others)


class PowersTest(Case):
    def test_examples(self):
        self.is_just(power_ring(CYCLE, CYCLE[0][0]), (0, 8))
        self.is_just(power_ring(LEAD, LEAD[0][0]), (7, 1))
        self.is_just(power_ring(CYCLE, (1, 2, 0, 4, 5, 6, 7, 3)), (0, 15))
        self.is_just(still_power(CYCLE, (1, 2, 0, 4, 5, 6, 7, 3)), 15)
        self.is_just(power_ring(CYCLE, (1, 2, 3, 4, 5, 3, 7, 6)), (3, 6))
        self.is_just(still_power(CYCLE, (1, 2, 3, 4, 5, 3, 7, 6)), 6)
        self.is_just(power_ring(CYCLE, (1, 2, 3, 4, 5, 6, 7, 6)), (6, 2))
        self.is_just(power_ring(CYCLE, (1, 2, 3, 4, 5, 6, 6, 5)), (6, 1))
        self.is_just(still_power(CYCLE, (1, 2, 3, 4, 5, 6, 6, 5)), 6)
        self.is_just(power_ring(RING, (0, 1, 2, 3)), (0, 1))
        self.is_just(still_power(RING, [0, 1, 2, 3]), 1)
        self.is_just(still_power(CYCLE, CYCLE[0][0]), 8)
        self.is_just(still_power(LEAD, LEAD[0][0]), 7)
        self.is_just(power_ring(ALL_OF_FIVE, (1, 2, 0, 4, 3)), (0, 6))

    def test_by_force(self):
        machines = [machine for machine in mixed_machines(200, 34, 8, 4, 99)]
        for machine in machines:
            for one in machine[0]:
                least = CYCLE if len(one) == 8 else None
                if least is None:
                    continue
                powers = [same_map(least)]
                for _ in range(80):
                    powers.append(map_then(least, powers[-1], one))
                lead, turn = next(
                    (lead, turn) for lead in range(40) for turn in range(1, 40) if powers[lead] == powers[lead + turn]
                )
                self.is_just(power_ring(least, one), (lead, turn))
                still = next(many for many in range(1, 41) if powers[many] == powers[2 * many])
                self.is_just(still_power(least, one), still)

    def test_wrong_maps(self):
        for call in (power_ring, still_power, map_number):
            self.refuses(InvalidMap, -1, call, VALVE, (0, 0, 0))
            self.refuses(InvalidMap, -1, call, VALVE, None)
            self.refuses(InvalidMap, 0, call, VALVE, (True, 2))
            self.refuses(InvalidMap, 1, call, VALVE, (0, 2))
            self.refuses(InvalidMachine, -1, call, NOT_LEAST, (0, 2))


class UndoneTest(Case):
    def test_examples(self):
        self.is_just(undone_at(CYCLE, 0), tuple((one, -one % 8) for one in range(8)))
        self.is_just(undone_at(VALVE, 0), ((0, 0), (1, 1)))
        self.is_just(undone_at(VALVE, 2), ((2, 2),))

    def test_by_force(self):
        for machine in [*least_ones(35, 40), ALL_OF_THREE]:
            told = [one for _, one in all_maps(machine)]
            for number, one in enumerate(told):
                if square(one) != one:
                    self.refuses(Refused, -1, undone_at, machine, number)
                    continue
                local = {map_then(machine, map_then(machine, one, other), one) for other in told}
                wanted = sorted(
                    (told.index(left), told.index(right))
                    for left in local for right in local if map_then(machine, left, right) == one
                )
                self.is_just(undone_at(machine, number), tuple(wanted))
                # A group: what is undone can be undone the other way round.
                self.assertEqual([(right, left) for left, right in wanted if (right, left) not in wanted], [])

    def test_more_maps(self):
        self.assertEqual(len(undone_at(ALL_OF_FOUR, 0)), 24)

    def test_wrong_numbers(self):
        for value in ODD_VALUES:
            self.refuses(InvalidIndex, -1, undone_at, VALVE, value)
        self.refuses(InvalidIndex, -1, undone_at, VALVE, 4)
        self.refuses(Refused, -1, undone_at, VALVE, 1)
