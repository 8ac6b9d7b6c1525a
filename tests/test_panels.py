"""Promises [45] and [46]: panels of instruments, and the most that can be shown."""

import itertools

from forgetwhen.errors import InvalidIndex, InvalidLate, InvalidLot, InvalidPanel, InvalidSize, InvalidState, Refused
from forgetwhen.needed import needed_news, word_sets
from forgetwhen.panels import (
    best_lots, can_be_shown, instrument, need_panel, pair_news, panel_machine, panel_marks, panel_needed, ring_holds,
    shown_classes, wild_pairs, wild_ring,
)
from forgetwhen.ways import marks_needed
from tests.support import (
    EIGHT, LAST, LATCH, ODD_VALUES, RING, VALVE, Case, Chance, all_words, as_lists, changed_papers, has_list, lots_of,
    mixed_machines, run,
)

TURNED = ((1, 0), (0, 0))
PANEL = (TURNED, ((0, 1), (0, 0), (7, 5)))
ROUND = (((1, 2, 0), (0, 0, 0)), ((0, 1, 1), (0, 0, 1), (5, 5, 5), (2, 1, 0)))


def mixed_panels(count, seed, states=3, kinds=2):
    chance = Chance(seed)
    for machine in mixed_machines(count, seed, states=states, kinds=kinds):
        many = len(machine[1])
        shown = tuple(tuple(chance.below(2) for _ in range(many)) for _ in range(1 + chance.below(3)))
        yield (machine[0], shown), chance.lot(len(machine[0]))


class NeedPanelTest(Case):
    def test_right_ones(self):
        self.is_just(need_panel(as_lists(PANEL)), PANEL)
        for many in range(1, 7):
            panel = (TURNED, ((0, 99),) * many)
            self.is_just(need_panel(panel), panel)
        self.is_just(need_panel((EIGHT[0], [EIGHT[1]])), (EIGHT[0], (EIGHT[1],)))
        self.is_just(need_panel((((0,),), ((0,),))), (((0,),), ((0,),)))

    def test_no_panel(self):
        shown = ((0, 1),)
        for value in (
            None, 3, (), (TURNED,), (TURNED, shown, shown), (TURNED, ()), (TURNED, shown * 7), (TURNED, 3), (3, shown),
            ((), shown), (((),), ((),)), ((3,), shown), (TURNED + ((0, 2),), shown), (TURNED + ((0,),), shown),
            (((0, 1),) * 5, shown), ((tuple(range(9)),), (tuple(range(9)),)), (((0, True),), shown), (((0, None),), (3,)),
            (((0, -1),), shown), "ab", {0: 1},
        ):
            self.refuses(InvalidPanel, -1, need_panel, value)
        for value in ODD_VALUES:
            self.refuses(InvalidPanel, -1, need_panel, value)

    def test_no_instrument(self):
        for odd in (None, 3, (), (0,), (0, 1, 0), (0, 100), (0, True), (-1, 0), (0, None), "01", {0: 1}):
            self.refuses(InvalidPanel, 1, need_panel, (TURNED, ((0, 0), odd, odd)))
            self.refuses(InvalidPanel, 0, instrument, (TURNED, [odd]), 0)

    def test_instruments(self):
        for number in range(3):
            self.is_just(instrument(as_lists(PANEL), number), (TURNED, PANEL[1][number]))
        for number in (3, -1, True, None, "0", (0,)):
            self.refuses(InvalidIndex, -1, instrument, PANEL, number)


class PanelMachineTest(Case):
    def test_machines(self):
        self.is_just(panel_machine(ROUND, ()), (ROUND[0], (0, 0, 0)))
        self.is_just(panel_machine(ROUND, (0,)), (ROUND[0], (0, 1, 1)))
        self.is_just(panel_machine(ROUND, [0, 1]), (ROUND[0], (0, 1, 2)))
        self.is_just(panel_machine(ROUND, (2,)), (ROUND[0], (0, 0, 0)))
        self.is_just(panel_machine(ROUND, (3,)), (ROUND[0], (0, 1, 2)))
        self.is_just(panel_machine((ROUND[0], ((4, 3, 4),)), (0,)), (ROUND[0], (0, 1, 0)))

    def test_wrong_lots(self):
        for value in (None, 3, "01", {}, True):
            self.refuses(InvalidLot, -1, panel_machine, PANEL, value)
        for odd in (3, -1, True, None, "0", (0,), 0, 1):
            self.refuses(InvalidLot, 2, panel_machine, PANEL, [0, 1, odd, odd])
        self.refuses(InvalidLot, 1, panel_machine, PANEL, (1, 0))
        self.refuses(InvalidLot, 0, panel_machine, PANEL, (-1, 0))

    def test_needed(self):
        chance = Chance(45)
        for panel, late in mixed_panels(40, 46):
            word = chance.word(len(panel[0]), 6)
            right = tuple(needed_news((panel[0], shown), late, word) for shown in panel[1])
            self.is_just(panel_needed(panel, late, list(word)), right)
            # What a lot's machine needs is what its instruments need, all together.
            for lot in lots_of(len(panel[1])):
                together = sorted({place for number in lot for place in right[number]})
                self.is_just(needed_news(panel_machine(panel, lot), late, word), tuple(together))

    def test_late_kinds(self):
        self.refuses(InvalidLate, 0, panel_needed, PANEL, (2,), ())
        self.refuses(InvalidLate, 1, panel_marks, PANEL, (0, 0))


class PanelMarksTest(Case):
    def test_all_lots(self):
        for panel, late in mixed_panels(60, 47):
            right = tuple(sorted(
                (lot, marks_needed(panel_machine(panel, lot), late)) for lot in lots_of(len(panel[1]))
            ))
            self.is_just(panel_marks(panel, late), right)
            told = dict(right)
            for lot, most in right:
                alone = [told[(number,)] for number in lot]
                self.assertEqual(most is None, None in alone)
                if most is not None:
                    self.assertTrue(max([0, *alone]) <= most <= sum(alone))

    def test_best_lots(self):
        for panel, late in mixed_panels(60, 48):
            for marks in range(7):
                enough = [lot for lot, most in panel_marks(panel, late) if most is not None and most <= marks]
                right = tuple(sorted(
                    lot for lot in enough if not [other for other in enough if set(lot) < set(other)]
                ))
                self.is_just(best_lots(panel, late, marks), right)

    def test_six_instruments(self):
        panel = (TURNED, ((0, 1), (0, 0)) * 3)
        told = panel_marks(panel, (0, 1))
        self.assertEqual([len(told), told[0], told[-1]], [64, ((), 0), ((5,), 0)])
        self.is_just(best_lots(panel, (0, 1), 6), ((1, 3, 5),))
        self.is_just(best_lots(panel, (0,), 0), ((1, 3, 5),))
        self.is_just(best_lots(panel, (0,), 1), ((0, 1, 2, 3, 4, 5),))

    def test_marks(self):
        for marks in (7, -1, True, False, None, "1", (1,)):
            self.refuses(InvalidSize, "marks", best_lots, PANEL, (0,), marks)


def ends_by_force(machine, late, word, pair):
    """The places of news that have a pair as ends."""
    sets = word_sets(machine, late, word)
    found = []
    for place, kind in enumerate(word):
        begins = [
            (run(machine, state, (put, kind)), run(machine, state, (kind, put)))
            for state in sets[place] for put in late
        ]
        todo = [(place + 1, *ends) for ends in begins]
        seen = set(todo)
        while todo:
            gap, one, other = todo.pop()
            if gap == len(word) and {one, other} == set(pair):
                found.append(place)
                break
            kinds = late if gap < len(word) else range(len(machine[0]))
            ways = [(gap, own) for own in kinds]
            if gap < len(word):
                ways.append((gap + 1, word[gap]))
            for behind, own in ways:
                node = (behind, machine[0][own][one], machine[0][own][other])
                if node not in seen:
                    seen.add(node)
                    todo.append(node)
    return found


class PairNewsTest(Case):
    def test_by_force(self):
        chance = Chance(49)
        numbers = {}
        for number in range(90):
            machine = chance.machine(2 + number % 3, 1 + (number % 4 > 0), 2)
            late = chance.pick(list(lots_of(len(machine[0]))))
            wild = []
            for pair in itertools.combinations(range(len(machine[1])), 2):
                most = pair_news(machine, late, *pair)
                self.is_just(pair_news(machine, late, *reversed(pair)), most)
                numbers[most] = numbers.get(most, 0) + 1
                if most is None:
                    wild.append(pair)
                    self.ring_is_right(machine, late, pair)
                else:
                    words = all_words(len(machine[0]), 5)
                    self.is_just(max(len(ends_by_force(machine, late, word, pair)) for word in words), most)
                    self.refuses(Refused, -1, wild_ring, machine, late, *pair)
            self.is_just(wild_pairs(machine, late), tuple(wild))
        self.assertTrue(all(numbers.get(most, 0) > 3 for most in (None, 0, 1)), numbers)

    def ring_is_right(self, machine, late, pair):
        ring = wild_ring(machine, late, *pair)
        self.assertFalse(has_list(ring))
        self.assertIs(ring_holds(machine, late, *pair, ring), True)
        self.assertIs(ring_holds(machine, late, *reversed(pair), wild_ring(machine, late, *reversed(pair))), True)
        ahead, turn, behind = ring
        for turns in range(4):
            self.assertGreaterEqual(len(ends_by_force(machine, late, ahead + turn * turns + behind, pair)), turns)

    def test_wrong_states(self):
        for call, more in ((pair_news, ()), (wild_ring, ()), (ring_holds, (3,))):
            for odd in (2, -1, True, None, "0", (0,)):
                self.refuses(InvalidState, 0, call, VALVE, (0,), odd, odd, *more)
                self.refuses(InvalidState, 1, call, VALVE, (0,), 1, odd, *more)
            self.refuses(InvalidState, 1, call, VALVE, (0,), 1, 1, *more)
            self.refuses(InvalidState, 1, call, (((0,),), (0,)), (0,), 0, 0, *more)

    def test_readings_play_no_part(self):
        self.is_just(pair_news((TURNED, (4, 4)), (0, 1), 0, 1), None)
        self.is_just(pair_news((TURNED, (4, 4)), (0,), 0, 1), 1)
        self.is_just(pair_news((TURNED, (4, 4)), (), 0, 1), 0)
        self.refuses(Refused, -1, wild_ring, (TURNED, (4, 4)), (), 0, 1)

    def test_great_machines(self):
        # Eight states, four kinds: as great as machines are.
        for late in ((), (0,), (2,), (0, 1, 2, 3)):
            self.assertIn(pair_news(EIGHT, late, 0, 7), (None, 0, 1, 2))
        many = (EIGHT[0][:1] + EIGHT[0][2:] + ((1, 1, 2, 3, 4, 5, 6, 7),), EIGHT[1])
        self.is_just(wild_pairs(many, ()), ())


class RingHoldsTest(Case):
    def is_ring(self, machine, late, pair, value):
        """What the promise says, by what is told of words alone."""
        if not isinstance(value, tuple) or len(value) != 3 or has_list(value):
            return False
        if not all(isinstance(word, tuple) and all(type(k) is int for k in word) for word in value):
            return False
        if not all(0 <= k < len(machine[0]) for word in value for k in word):
            return False
        ahead, ring, behind = value
        sets = word_sets(machine, late, ahead + ring)
        if sets[-1] != sets[len(ahead)]:
            return False
        if led_by_force(machine, late, behind, pair) != led_by_force(machine, late, ring + behind, pair):
            return False
        ends = ends_by_force(machine, late, ahead + ring + behind, pair)
        return any(len(ahead) <= place < len(ahead) + len(ring) for place in ends)

    def test_changed_rings(self):
        held = 0
        for machine, late, pair in ((VALVE, (0, 1), (0, 1)), (LAST, (0,), (0, 1)), (RING, (0, 1), (0, 1))):
            ring = wild_ring(machine, late, *pair) if pair in wild_pairs(machine, late) else ((), (0,), ())
            for value in changed_papers(ring):
                right = self.is_ring(machine, late, pair, value)
                held += right
                self.assertIs(ring_holds(machine, late, *pair, value), right, value)
        self.assertGreater(held, 3)

    def test_all_short_triples(self):
        for machine, late in ((VALVE, (0, 1)), (VALVE, (1,)), (LATCH, (0, 1)), (LAST, (0,))):
            words = list(all_words(2, 2))
            for value in itertools.product(words, repeat=3):
                right = self.is_ring(machine, late, (0, 1), value)
                self.assertIs(ring_holds(machine, late, 0, 1, value), right, value)
                self.assertIs(ring_holds(machine, late, 1, 0, value), right, value)

    def test_rings_of_greater_machines(self):
        chance = Chance(53)
        held = 0
        for number in range(300):
            machine = chance.machine(3 + number % 2, 2, 1)
            late = chance.pick(((0,), (1,), (0, 1)))
            pair = chance.pick(((0, 1), (0, 2), (1, 2)))
            for _ in range(6):
                value = tuple(chance.word(2, chance.below(4)) for _ in range(3))
                right = self.is_ring(machine, late, pair, value)
                held += right
                self.assertIs(ring_holds(machine, late, *pair, value), right, (machine, late, pair, value))
        self.assertGreater(held, 30)

    def test_long_words(self):
        self.assertIs(ring_holds(VALVE, (0, 1), 0, 1, ((0, 1) * 500, (0,) * 999, (0,) * 500)), True)

    def test_any_value(self):
        for value in ODD_VALUES:
            self.assertIs(ring_holds(VALVE, (0, 1), 0, 1, value), False)


def led_by_force(machine, late, word, pair):
    """The pairs that late words in the gaps of a word, and a word on end, lead to a pair."""
    led = set()
    for one, other in itertools.combinations(range(len(machine[1])), 2):
        todo = [(0, one, other)]
        seen = set(todo)
        while todo:
            gap, left, right = todo.pop()
            if gap == len(word) and {left, right} == set(pair):
                led.add((one, other))
            kinds = late if gap < len(word) else range(len(machine[0]))
            ways = [(gap, own) for own in kinds] + ([(gap + 1, word[gap])] if gap < len(word) else [])
            for behind, own in ways:
                node = (behind, machine[0][own][left], machine[0][own][right])
                if node not in seen:
                    seen.add(node)
                    todo.append(node)
    return led


class ShownTest(Case):
    def test_classes(self):
        for machine in mixed_machines(60, 51, states=4, kinds=2):
            for late in lots_of(len(machine[0])):
                classes = list(range(len(machine[1])))
                for one, other in wild_pairs(machine, late) * len(machine[1]):
                    classes = [classes[one] if name == classes[other] else name for name in classes]
                names = []
                for name in classes:
                    if name not in names:
                        names.append(name)
                self.is_just(shown_classes(machine, late), tuple(names.index(name) for name in classes))

    def test_can_be_shown(self):
        told = []
        for machine in mixed_machines(120, 52, states=4, kinds=2):
            for late in lots_of(len(machine[0])):
                classes = shown_classes(machine, late)
                alike = all(
                    machine[1][one] == machine[1][other]
                    for one, other in itertools.combinations(range(len(classes)), 2) if classes[one] == classes[other]
                )
                self.assertIs(can_be_shown(machine, late), alike)
                self.assertEqual(alike, marks_needed(machine, late) is not None)
                # The finest reading that can be shown.
                self.assertIsNotNone(marks_needed((machine[0], classes), late))
                told.append(alike)
        self.assertGreater(told.count(False), 10)

    def test_plain_ones(self):
        self.is_just(shown_classes(VALVE, (0,)), (0, 1))
        self.is_just(shown_classes(VALVE, (0, 1)), (0, 0))
        self.is_just(wild_pairs(VALVE, (0, 1)), ((0, 1),))
        self.is_just(can_be_shown(VALVE, (0, 1)), False)
        self.is_just(can_be_shown((TURNED, (3, 3)), (0, 1)), True)
        self.is_just(can_be_shown(VALVE, (0,)), True)
