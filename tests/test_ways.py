"""Promises [21] and [22]."""

from fractions import Fraction
from math import gcd

from forgetwhen.errors import InvalidLate, InvalidMachine, InvalidSize
from forgetwhen.late import steep_machine
from forgetwhen.needed import needed_news, word_relations, word_sets
from forgetwhen.ways import growth, marks_by, marks_hold, marks_needed, marks_paper, widest_word
from forgetwhen.web import standing_steps, web
from tests.support import (
    EIGHT, LAST, LATCH, ODD_VALUES, PARTLY, RING, VALVE, Case, all_words, as_lists, changed_papers, has_list, lots_of,
    mixed_machines,
)

ONE = (((0,),), (7,))


def cases(seed, count=30, states=3, kinds=2):
    for machine in mixed_machines(count, seed, states, kinds, states):
        for late in lots_of(len(machine[0])):
            yield machine, late
    for machine, late, _ in PARTLY:
        yield machine, late


def steps_of(machine, late):
    """The steps of the web: (node, node behind, 1 if it is needed)."""
    sets, relations, after, before, needed = web(machine, late)
    return [
        ((i, before[j][k]), (after[i][k], j), needed[i][j][k])
        for i in range(len(sets)) for j in range(len(relations)) for k in range(len(machine[0]))
    ]


def reached_from(steps):
    """For each node those that some steps lead to."""
    found = {one: set() for one, _, _ in steps}
    for one, other, _ in steps:
        found[one].add(other)
        found.setdefault(other, set())
    while True:
        more = {one: behind.union(*[found[node] for node in behind]) for one, behind in found.items()}
        if more == found:
            return found
        found = more


def is_level(machine, late):
    steps = steps_of(machine, late)
    found = reached_from(steps)
    return not any(need and one in found[other] | {other} for one, other, need in steps)


def best_mean(steps):
    """The greatest mean of needed steps of rings that come to no node twice, ring by ring."""
    behind = {}
    for one, other, need in steps:
        behind.setdefault(one, set()).add((other, need))
    best = Fraction(0)

    def go(begin, node, seen, total):
        nonlocal best
        for other, need in behind.get(node, ()):
            if other == begin:
                best = max(best, Fraction(total + need, len(seen)))
            elif other > begin and other not in seen:
                go(begin, other, (*seen, other), total + need)

    for node in behind:
        go(node, node, (node,), 0)
    return best


def heights_by_force(steps, p, q):
    """For each node the greatest sum of ways of up to as many steps as there are nodes."""
    nodes = {node for step in steps for node in step[:2]}
    heights = {node: 0 for node in nodes}
    for _ in nodes:
        more = dict(heights)
        for one, other, need in steps:
            more[other] = max(more[other], heights[one] + q * need - p)
        heights = more
    return heights


def in_rows(machine, late, heights):
    sets, relations, _, _, _ = web(machine, late)
    return tuple(tuple(heights.get((i, j), 0) for j in range(len(relations))) for i in range(len(sets)))


def is_number(value):
    return isinstance(value, int) and not isinstance(value, bool)


def is_word(machine, value):
    return isinstance(value, tuple) and all(is_number(kind) and 0 <= kind < len(machine[0]) for kind in value)


def judged(machine, late, value):
    """Whether a value is a paper, by words and heights."""
    if not isinstance(value, tuple) or not value:
        return False
    if value[0] == "level" and len(value) == 4:
        _, most, rows, word = value
        p, q = 0, 1
        if not is_number(most) or not is_word(machine, word):
            return False
    elif value[0] == "grows" and len(value) == 7:
        _, p, q, rows, ahead, ring, behind = value
        if not (is_number(p) and is_number(q) and p > 0 and q > 0 and gcd(p, q) == 1):
            return False
        if not all(is_word(machine, word) for word in (ahead, ring, behind)) or ring == ():
            return False
    else:
        return False
    sets, relations, _, _, _ = web(machine, late)
    if not isinstance(rows, tuple) or len(rows) != len(sets):
        return False
    if not all(isinstance(row, tuple) and len(row) == len(relations) for row in rows):
        return False
    if not all(is_number(height) for row in rows for height in row):
        return False
    for (i, j), (after, behind_j), need in steps_of(machine, late):
        if rows[after][behind_j] < rows[i][j] + q * need - p:
            return False
    if value[0] == "level":
        flat = [height for row in rows for height in row]
        return max(flat) - min(flat) <= most and len(needed_news(machine, late, word)) == most
    if word_sets(machine, late, ahead)[-1] != word_sets(machine, late, ahead + ring)[-1]:
        return False
    if word_relations(machine, late, behind)[0] != word_relations(machine, late, ring + behind)[0]:
        return False
    needed = [place for place in needed_news(machine, late, ahead + ring + behind)
              if len(ahead) <= place < len(ahead) + len(ring)]
    return len(needed) * q == len(ring) * p


class NumbersTest(Case):
    def test_examples(self):
        self.is_just((marks_needed(VALVE, (0,)), marks_by(VALVE, (0,), 3)), (1, (0, 1, 1, 1)))
        self.is_just((marks_needed(VALVE, (0, 1)), growth(VALVE, (0, 1))), (None, (1, 1)))
        self.is_just(marks_needed(LAST, (0, 1)), 1)
        self.is_just(growth(LAST, (0, 1)), (0, 1))
        self.is_just(marks_by(ONE, (0,), 0), (0,))
        self.is_just(widest_word(ONE, (0,), 5), (0,) * 5)
        self.is_just(widest_word(VALVE, (0,), 3), (0, 0, 1))
        self.is_just(marks_by(VALVE, (0, 1), 60), tuple(range(61)))
        self.is_just(widest_word(VALVE, (0, 1), 60), (0,) * 60)
        self.is_just([marks_needed(steep_machine(states), (0, 1)) for states in range(1, 6)], [0, 1, 2, 4, 6])
        # At first no news can be needed, however many more come.
        self.is_just(marks_by((((0, 1, 2, 2), (1, 2, 3, 2)), (0, 2, 1, 3)), (0,), 8), (0, 0, 0, 1, 2, 3, 4, 5, 6))

    def test_by_force(self):
        """Among all words of a length the most needed news, and the least word that has them."""
        for machine, late in cases(2101):
            counts = marks_by(machine, late, 6)
            for many in range(7):
                words = [word for word in all_words(len(machine[0]), many) if len(word) == many]
                needed = [len(needed_news(machine, late, word)) for word in words]
                self.is_just(counts[many], max(needed))
                self.is_just(widest_word(machine, late, many), words[needed.index(max(needed))])
            self.is_just(marks_by(machine, late, 3), counts[:4])

    def test_three_kinds_by_force(self):
        for machine, late in cases(2102, 12, 4, 3):
            for many in range(5):
                words = [word for word in all_words(len(machine[0]), many) if len(word) == many]
                needed = [len(needed_news(machine, late, word)) for word in words]
                self.is_just(marks_by(machine, late, many)[-1], max(needed))
                self.is_just(widest_word(machine, late, many), words[needed.index(max(needed))])

    def test_level(self):
        told = {True: 0, False: 0}
        for machine, late in cases(2103, 80, 3, 3):
            level = is_level(machine, late)
            told[level] += 1
            most = marks_needed(machine, late)
            self.is_just(most is not None, level)
            if level:
                self.is_just(most, max(heights_by_force(steps_of(machine, late), 0, 1).values()))
                self.is_just(max(marks_by(machine, late, 20)), most)
            if len(late) == len(machine[0]):
                self.is_just(level, standing_steps(machine, late) == ())
            if not late:
                self.is_just(most, 0)
        self.assertGreater(min(told.values()), 20)

    def test_growth(self):
        many = set()
        for machine, late in cases(2104, 60):
            steps = steps_of(machine, late)
            if len({step[0] for step in steps}) > 12:
                continue
            best = best_mean(steps)
            many.add(best)
            self.is_just(growth(machine, late), (best.numerator, best.denominator))
        self.assertGreater(len(many), 2)

    def test_growth_of_parts(self):
        """Machines where not each news of a ring is needed."""
        for machine, late, (p, q) in PARTLY:
            self.is_just(growth(machine, late), (p, q))
            counts = marks_by(machine, late, 60)
            self.assertLessEqual(abs(q * counts[60] - 60 * p), 4 * q)
            self.is_just(marks_needed(machine, late), None)

    def test_numbers_that_are_none(self):
        for many in (-1, 61, True, None, "3", (3,), 10 ** 9):
            self.refuses(InvalidSize, "many", marks_by, VALVE, (0,), many)
            self.refuses(InvalidSize, "many", widest_word, VALVE, (0,), many)
        for call in (marks_needed, growth, marks_paper):
            self.refuses(InvalidMachine, -1, call, 5, 5)
            self.refuses(InvalidLate, 0, call, VALVE, (2,))
        self.refuses(InvalidLate, 0, marks_hold, VALVE, (2,), ())
        self.refuses(InvalidLate, -1, marks_by, VALVE, None, 99)
        self.is_just(marks_paper(as_lists(LATCH), [1, 0]), marks_paper(LATCH, (0, 1)))

    def test_larger_machines(self):
        self.is_just(marks_needed(EIGHT, ()), 0)
        self.assertIs(marks_needed(RING, (0, 1)) is None, not is_level(RING, (0, 1)))


class PapersTest(Case):
    def test_examples(self):
        self.is_just(marks_paper(VALVE, (0,)), ("level", 1, ((1, 0),), (1,)))
        self.is_just(marks_paper(VALVE, (0, 1)), ("grows", 1, 1, ((0, 0),), (), (0,), ()))
        self.is_just(marks_paper(ONE, (0,)), ("level", 0, ((0,),), ()))

    def test_made_papers(self):
        told = {"level": 0, "grows": 0}
        for machine, late in cases(2201, 90, 3, 3):
            paper = marks_paper(machine, late)
            told[paper[0]] += 1
            self.assertFalse(has_list(paper))
            self.assertIs(marks_hold(machine, late, paper), True)
            self.assertTrue(judged(machine, late, paper))
            p, q = growth(machine, late)
            steps = steps_of(machine, late)
            if p == 0:
                _, most, rows, word = paper
                self.is_just(most, marks_needed(machine, late))
                counts = marks_by(machine, late, len(word))
                self.is_just(counts.index(most), len(word))
                self.is_just(word, widest_word(machine, late, len(word)))
            else:
                self.is_just(paper[1:3], (p, q))
                rows = paper[3]
                # Marks grow in step with the news: within a bound, and round the ring.
                bound = max(map(max, rows)) - min(map(min, rows))
                for many, most in enumerate(marks_by(machine, late, 30)):
                    self.assertLessEqual(q * most, p * many + bound)
                _, _, _, _, ahead, ring, behind = paper
                word = ahead + ring * 3 + behind
                self.assertGreaterEqual(len(needed_news(machine, late, word)), 3 * len(ring) * p // q)
            self.is_just(rows, in_rows(machine, late, heights_by_force(steps, p, q)))
        self.assertGreater(min(told.values()), 20)

    def test_changed_papers(self):
        odd = (None, True, False, -1, 0, 1, 2, 9, "x", (), [], 0.5)
        for machine, late in [*cases(2202, 12, 2, 2), *cases(2203, 5, 3, 2)]:
            for value in changed_papers(marks_paper(machine, late), odd):
                wanted = not has_list(value) and judged(machine, late, value)
                self.assertIs(marks_hold(machine, late, value), wanted, (machine, late, value))
        for value in ODD_VALUES:
            self.assertIs(marks_hold(VALVE, (0,), value), False)

    def test_other_papers_that_hold(self):
        for shift in (-7, 3):
            self.assertIs(marks_hold(VALVE, (0,), ("level", 1, ((1 + shift, shift),), (1,))), True)
            self.assertIs(marks_hold(VALVE, (0, 1), ("grows", 1, 1, ((shift, shift),), (), (0,), ())), True)
        self.assertIs(marks_hold(VALVE, (0,), ("level", 1, ((1, 0),), (0, 1, 0, 1))), True)
        self.assertIs(marks_hold(VALVE, (0,), ("level", 1, ((1, 0),), (0,) * 1000 + (1,))), True)
        self.assertIs(marks_hold(VALVE, (0,), ("level", 1, ((1, 0),), (0,))), False)
        self.assertIs(marks_hold(VALVE, (0,), ("level", 1, ((2, 0),), (1,))), False)
        self.assertIs(marks_hold(VALVE, (0,), ("level", 2, ((2, 0),), (1,))), False)
        self.assertIs(marks_hold(VALVE, (0,), ("level", 1, ((0, 0),), (1,))), False)
        self.assertIs(marks_hold(VALVE, (0,), ("level", True, ((1, 0),), (1,))), False)
        self.assertIs(marks_hold(VALVE, (0,), ("level", 1, ((True, 0),), (1,))), False)
        self.assertIs(marks_hold(VALVE, (0, 1), ("grows", 1, 1, ((0, 0),), (1, 0), (0, 0, 0), (0,))), True)
        self.assertIs(marks_hold(VALVE, (0, 1), ("grows", 1, 1, ((0, 0),), (), (0,) * 800, ())), True)
        # A ring without needed news tells nothing.
        self.assertIs(marks_hold(VALVE, (0,), ("grows", 0, 1, ((1, 0),), (), (1,), (1,))), False)
        # A common divisor, an empty ring, another measure, a ring that does not stand.
        self.assertIs(marks_hold(VALVE, (0, 1), ("grows", 2, 2, ((0, 0),), (), (0,), ())), False)
        self.assertIs(marks_hold(VALVE, (0, 1), ("grows", 1, 1, ((0, 0),), (), (), ())), False)
        self.assertIs(marks_hold(VALVE, (0, 1), ("grows", 1, 2, ((0, 0),), (), (0,), ())), False)
        self.assertIs(marks_hold(VALVE, (0, 1), ("grows", 3, 2, ((0, 0),), (), (0,), ())), False)
        self.assertIs(marks_hold(VALVE, (0, 1), ("grows", 1, 1, ((0, 0),), (), (1,), ())), False)
        self.assertIs(marks_hold(VALVE, (0, 1), ("grows", 0, 1, ((0, 0),), (), (0,), ())), False)
        self.assertIs(marks_hold(VALVE, (0, 1), ("grows", -1, -1, ((0, 0),), (), (0,), ())), False)

    def test_rings_twice(self):
        for machine, late in cases(2204, 60, 3, 2):
            paper = marks_paper(machine, late)
            if paper[0] == "grows":
                _, p, q, rows, ahead, ring, behind = paper
                for words in ((ahead, ring + ring, behind), (ahead + ring, ring, behind), (ahead, ring, ring + behind)):
                    self.assertIs(marks_hold(machine, late, ("grows", p, q, rows, *words)), True)
                doubled = tuple(tuple(2 * height for height in row) for row in rows)
                self.assertIs(marks_hold(machine, late, ("grows", 2 * p, 2 * q, doubled, ahead, ring, behind)), False)

    def test_never_both(self):
        """No paper of a level machine holds for one that is not, and the other way."""
        for machine, late in cases(2205, 30, 2, 2):
            sets, relations, _, _, _ = web(machine, late)
            flat = tuple((0,) * len(relations) for _ in sets)
            level = marks_needed(machine, late) is not None
            for most in range(3):
                for word in all_words(len(machine[0]), 2):
                    if marks_hold(machine, late, ("level", most, flat, word)):
                        self.assertTrue(level)
                    if marks_hold(machine, late, ("grows", 1, 1, flat, (), word, ())):
                        self.assertFalse(level)
