"""Promises [51] and [52]."""

from forgetwhen.counts import Rises, counts_hold, counts_paper, marks_for
from forgetwhen.errors import InvalidLate, InvalidMachine, InvalidSize
from forgetwhen.late import steep_machine
from forgetwhen.roads import Roads
from forgetwhen.ways import growth, marks_needed
from forgetwhen.web import web
from tests.support import (
    LAST, LATCH, ODD_VALUES, PARTLY, VALVE, Case, as_lists, changed_papers, has_list, lots_of, mixed_machines,
)

FAR = 10 ** 18


def cases(seed, count=30, states=3, kinds=3):
    for machine in mixed_machines(count, seed, states, kinds, states):
        for late in lots_of(len(machine[0])):
            yield machine, late
    for machine, late, _ in PARTLY:
        yield machine, late


def counts_by_force(machine, late, many):
    """The most needed news by numbers of news, told by sets and relations of words, step by step."""
    sets, relations, after, before, needed = web(machine, late)
    best = {(0, j): 0 for j in range(len(relations))}
    counts = [0]
    for _ in range(many):
        more = {}
        for i in range(len(sets)):
            for j in range(len(relations)):
                for kind in range(len(machine[0])):
                    ahead = (i, before[j][kind])
                    if ahead in best:
                        node = (after[i][kind], j)
                        more[node] = max(more.get(node, 0), best[ahead] + needed[i][j][kind])
        best = more
        counts.append(max(number for (_, j), number in best.items() if j == 0))
    return counts


def holds_far(counts, value):
    """Whether a triple of the right form agrees with counts far beyond."""
    told, turn, rise = value
    if tuple(counts[:len(told)]) != told:
        return False
    return all(counts[at + turn] == counts[at] + rise for at in range(len(told) - turn, len(counts) - turn))


def has_form(value):
    if not (isinstance(value, tuple) and len(value) == 3 and isinstance(value[0], tuple)) or has_list(value):
        return False
    counts, turn, rise = value
    if not all(isinstance(number, int) and not isinstance(number, bool) for number in (*counts, turn, rise)):
        return False
    return 1 <= turn <= len(counts)


def plain_roads(steps, ends):
    """Roads that are no web's, from node 0 on: steps (node, node behind, 1 if it is needed)."""
    roads = Roads.__new__(Roads)
    roads.steps = [(begin, end, 0, need) for begin, end, need in steps]
    roads.many = 1 + max(max(begin, end) for begin, end, _ in steps)
    roads.begins, roads.ends = (0,), ends
    return roads


def head_start(length):
    """A chain of needed steps to a ring of three with one needed step; and, from 0 on, a ring of two with one.

    (steps, the ring of two, the ring of three)
    """
    steps = [(at, at + 1, 1) for at in range(length)]
    slow = (length, length + 1, length + 2)
    steps += [(length, length + 1, 1), (length + 1, length + 2, 0), (length + 2, length, 0)]
    fast = (length + 3, length + 4)
    steps += [(0, fast[0], 0), (fast[0], fast[1], 1), (fast[1], fast[0], 0)]
    return steps, fast, slow


class RisesTest(Case):
    """Roads on which it takes long until the steepest ring is ahead."""

    def looks_right(self, steps, ends):
        roads = plain_roads(steps, ends)
        rises = Rises(roads)
        counts = roads.most_by(400)
        for many in range(401):
            self.assertEqual(rises.most_of(many), counts[many], many)
        return rises

    def test_two_rings(self):
        for length in (5, 20, 33):
            steps, fast, slow = head_start(length)
            rises = self.looks_right(steps, fast + slow)
            self.assertEqual(rises.rise * 2, rises.turn)
            self.assertGreater(rises.first, 3 * length)

    def test_a_ring_behind_another(self):
        """What comes from the steeper ring is ahead, at the other one, long after."""
        for length in (5, 20, 33):
            steps, fast, slow = head_start(length)
            for end in slow:
                rises = self.looks_right([*steps, (fast[0], slow[0], 0)], (end,))
                self.assertEqual(rises.rise * 2, rises.turn)
                self.assertGreater(rises.first, 3 * length)

    def test_rings_of_one_step(self):
        """Behind many free steps one where each is needed, which leads to a node that stood long ahead."""
        for length in (10, 25):
            steps = [(at, at + 1, 1) for at in range(length)] + [(length, length, 0)]
            free = [0, *range(length + 1, 2 * length + 1)]
            steps += [(one, other, 0) for one, other in zip(free, free[1:])]
            steps += [(free[-1], free[-1], 1), (free[-1], length, 0)]
            rises = self.looks_right(steps, (length,))
            self.is_just((rises.turn, rises.rise), (1, 1))

    def test_rings_of_many_lengths(self):
        steps = [(0, 1, 0)]
        ends = [0, 1]
        for length in (2, 3, 5):
            first = len(steps) + 1
            ring = list(range(first, first + length))
            steps += [(1, first, 0), *zip(ring, ring[1:] + ring[:1], [1] + [0] * (length - 1))]
            ends += ring
        self.looks_right(steps, tuple(ends))


class CountsTest(Case):
    def test_examples(self):
        self.is_just(marks_for(VALVE, (0, 1), FAR), FAR)
        self.is_just(marks_for(VALVE, (0,), FAR), 1)
        self.is_just([marks_for(VALVE, (0,), many) for many in range(4)], [0, 1, 1, 1])
        for value in ((((0, 1), 1, 0)), ((0, 1, 1), 1, 0), ((0, 1, 1, 1), 2, 0), ((0, 1) + (1,) * 200, 150, 0)):
            self.assertIs(counts_hold(VALVE, (0,), value), True)
        for value in (((0,), 1, 0), ((0, 1), 2, 0), ((0, 1), 1, 1), ((0, 1, 2), 1, 0), ((1, 1), 1, 0), ((), 1, 0)):
            self.assertIs(counts_hold(VALVE, (0,), value), False)
        for value in (((0,), 1, 1), ((0, 1), 1, 1), ((0, 1), 2, 2), (tuple(range(300)), 7, 7)):
            self.assertIs(counts_hold(VALVE, (0, 1), value), True)
        for value in (((0,), 1, 0), ((0, 1), 2, 1), ((0, 1), 0, 0), ((0, 1), 3, 3)):
            self.assertIs(counts_hold(VALVE, (0, 1), value), False)

    def test_told_again_from_the_counts(self):
        kinds = {"level": 0, "each": 0, "some": 0}
        for machine, late in cases(5101):
            paper = counts_paper(machine, late)
            self.assertTrue(has_form(paper))
            counts = counts_by_force(machine, late, 90)
            self.assertTrue(holds_far(counts, paper), (machine, late, paper))
            self.assertIs(counts_hold(machine, late, paper), True)
            p, q = growth(machine, late)
            self.is_just(paper[2] * q, paper[1] * p)
            kinds["level" if p == 0 else "each" if q == 1 else "some"] += 1
            for many in (0, 1, 2, len(paper[0]) - 1, len(paper[0]), len(paper[0]) + 1, 60, 89, 90):
                self.is_just(marks_for(machine, late, many), counts[many])
            # However far, it goes on in step.
            for many in (10 ** 6, FAR - paper[1]):
                ahead = marks_for(machine, late, many)
                self.is_just(marks_for(machine, late, many + paper[1]), ahead + paper[2])
                self.assertLessEqual(marks_for(machine, late, many + 1) - ahead, 1)
                turns, left = divmod(many - (len(paper[0]) - paper[1]), paper[1])
                self.is_just(ahead, paper[0][len(paper[0]) - paper[1] + left] + turns * paper[2])
        self.assertGreater(min(kinds.values()), 2)

    def test_changed_papers(self):
        odd = (None, True, False, -1, 0, 1, 2, 3, 50, "x", (), [])
        for machine, late in [*cases(5102, 12), *((m, late) for m, late, _ in PARTLY)]:
            counts = counts_by_force(machine, late, 150)
            for value in changed_papers(counts_paper(machine, late), odd):
                wanted = has_form(value) and holds_far(counts, value)
                self.assertIs(counts_hold(machine, late, value), wanted, (machine, late, value))
        for value in ODD_VALUES:
            self.assertIs(counts_hold(VALVE, (0,), value), False)

    def test_all_short_triples(self):
        for machine, late in [*cases(5103, 4), *((m, late) for m, late, _ in PARTLY)]:
            counts = counts_by_force(machine, late, 150)
            for many in range(1, 12):
                for turn in range(1, many + 1):
                    for rise in range(0, turn + 1):
                        value = (tuple(counts[:many]), turn, rise)
                        self.assertIs(counts_hold(machine, late, value), holds_far(counts, value))

    def test_papers_with_more_counts(self):
        for machine, late in cases(5104, 12):
            counts, turn, rise = counts_paper(machine, late)
            more = list(counts)
            for _ in range(200):
                more.append(more[-turn] + rise)
            self.assertIs(counts_hold(machine, late, (tuple(more), turn, rise)), True)
            self.assertIs(counts_hold(machine, late, (tuple(more), 3 * turn, 3 * rise)), True)
            self.assertIs(counts_hold(machine, late, (tuple(more), turn, rise + 1)), False)
            for at in (150, len(more) - 1):
                wrong = tuple(more[:at] + [more[at] + 1] + more[at + 1:])
                self.assertIs(counts_hold(machine, late, (wrong, turn, rise)), False)

    def test_steep_machines(self):
        self.is_just(marks_for(steep_machine(3), (0, 1), FAR), 2)
        self.is_just(marks_for(LAST, (0, 1), 1), 1)

    def test_wrong_arguments(self):
        for many in (-1, FAR + 1, True, None, "3", (3,)):
            self.refuses(InvalidSize, "many", marks_for, VALVE, (0,), many)
        for call, told in ((counts_paper, ()), (counts_hold, ((),)), (marks_for, (-1,))):
            self.refuses(InvalidMachine, -1, call, 5, 5, *told)
            self.refuses(InvalidLate, 0, call, VALVE, (2,), *told)
        self.is_just(counts_paper(as_lists(LATCH), [1]), counts_paper(LATCH, (1,)))
