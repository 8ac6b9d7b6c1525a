"""Promises [35] to [37]: lateness, told stories, what is needed of them, and the twin with a window."""

import itertools

from forgetwhen.errors import InvalidKind, InvalidLateness, InvalidMachine, InvalidMoment, InvalidStory
from forgetwhen.late import steep_machine
from forgetwhen.lateness import (
    WindowTwin, gap_kinds, need_lateness, need_told, told_marks, told_needed, told_relations, told_sets, window,
)
from forgetwhen.needed import needed_news, word_relations, word_sets
from forgetwhen.stories import story_readings
from forgetwhen.ways import marks_needed
from tests.support import LAST, LATCH, ODD_VALUES, RING, VALVE, Case, Chance, all_words, as_lists, mixed_machines, run

FOUR = (((0,), (0,), (0,), (0,)), (0,))
TURNS = (((0, 2, 0), (1, 1, 0)), (0, 0, 1))


def fits(lateness, kind, behind):
    return lateness[kind] is None or lateness[kind] >= behind


def kinds_at(lateness, behind):
    return [kind for kind in range(len(lateness)) if fits(lateness, kind, behind)]


def sets_by_force(machine, lateness, word):
    """Where 0 comes to with words of at most so many letters as states in each gap."""
    rows, ahead = [], {0}
    for gap in range(len(word) + 1):
        kinds = kinds_at(lateness, len(word) - gap)
        for _ in machine[1]:
            ahead = ahead | {machine[0][kind][state] for kind in kinds for state in ahead}
        rows.append(tuple(sorted(ahead)))
        if gap < len(word):
            ahead = {machine[0][word[gap]][state] for state in ahead}
    return tuple(rows)


def is_parted_by_force(machine, lateness, word, gap, one, other):
    """Whether something put into this gap and those behind it, and a word on end, parts two states."""
    todo, seen = [(gap, one, other)], {(gap, one, other)}
    while todo:
        at, left, right = todo.pop()
        if at == len(word) and machine[1][left] != machine[1][right]:
            return True
        ways = [(at, kind) for kind in kinds_at(lateness, len(word) - at)]
        if at < len(word):
            ways.append((at + 1, word[at]))
        for behind, kind in ways:
            node = (behind, machine[0][kind][left], machine[0][kind][right])
            if node not in seen:
                seen.add(node)
                todo.append(node)
    return False


def relations_by_force(machine, lateness, word):
    states = range(len(machine[1]))
    rows = []
    for gap in range(len(word) + 1):
        names, row = [], []
        for state in states:
            for number, known in enumerate(names):
                if not is_parted_by_force(machine, lateness, word, gap, known, state):
                    row.append(number)
                    break
            else:
                row.append(len(names))
                names.append(state)
        rows.append(tuple(row))
    return tuple(rows)


def needed_by_force(machine, lateness, word):
    sets = sets_by_force(machine, lateness, word)
    found = []
    for place, kind in enumerate(word):
        for state, put in itertools.product(sets[place], kinds_at(lateness, len(word) - place)):
            ends = run(machine, state, (put, kind)), run(machine, state, (kind, put))
            if is_parted_by_force(machine, lateness, word, place + 1, *ends):
                found.append(place)
                break
    return tuple(found)


def mixed_lateness(chance, kinds, most=3):
    return tuple(chance.pick((None, *range(most + 1))) for _ in range(kinds))


def told_story(chance, lateness, many):
    """A told story of so many news."""
    order, kinds = [], []
    for number in range(many):
        kind = chance.below(len(lateness))
        most = number if lateness[kind] is None else min(number, lateness[kind])
        order.insert(number - chance.below(most + 1), number)
        kinds.append(kind)
    moments = {number: 3 * moment + 1 for moment, number in enumerate(order)}
    return tuple((moments[number], kind) for number, kind in enumerate(kinds))


class NeedLatenessTest(Case):
    def test_right_ones(self):
        self.is_just(need_lateness(VALVE, [None, 0]), (None, 0))
        self.is_just(need_lateness(VALVE, (12, None)), (12, None))
        self.is_just(need_lateness(FOUR, (0, 12, None, 1)), (0, 12, None, 1))

    def test_wrong_ones(self):
        for value in (None, 3, "ab", {}, (), (None,), (None, None, None), VALVE[0][0] + (0,)):
            self.refuses(InvalidLateness, -1, need_lateness, VALVE, value)
        for odd in (13, -1, True, False, "0", (), [0], 10 ** 9):
            self.refuses(InvalidLateness, 0, need_lateness, VALVE, (odd, odd))
            self.refuses(InvalidLateness, 1, need_lateness, VALVE, [None, odd])

    def test_any_value(self):
        for value in ODD_VALUES:
            if value not in ((), []) and not (isinstance(value, (list, tuple)) and len(value) == 2):
                self.refuses(InvalidLateness, -1, need_lateness, VALVE, value)

    def test_window(self):
        for value, most in (
            ((None, None), 0), ((0, 0), 0), ((None, 0), 0), ((3, None), 3), ((3, 12), 12), ([5, 2], 5), ((0, 1), 1),
        ):
            self.is_just(window(VALVE, value), most)

    def test_gap_kinds(self):
        told = (None, 0, 3, 12)
        for behind, kinds in (
            (0, (0, 1, 2, 3)), (1, (0, 2, 3)), (2, (0, 2, 3)), (3, (0, 2, 3)), (4, (0, 3)), (11, (0, 3)),
            (12, (0, 3)), (13, (0,)), (10 ** 30, (0,)),
        ):
            self.is_just(gap_kinds(FOUR, told, behind), kinds)
        self.is_just(gap_kinds(VALVE, [0, 0], 1), ())


class NeedToldTest(Case):
    def test_right_ones(self):
        self.is_just(need_told(VALVE, (0, 2), [[9, 0], [5, 1], (12, 0), (4, 1)][:3]), ((9, 0), (5, 1), (12, 0)))
        self.is_just(need_told(VALVE, (None, 0), ((9, 1), (5, 0), (4, 0), (3, 0))), ((9, 1), (5, 0), (4, 0), (3, 0)))
        self.is_just(need_told(VALVE, (1, 1), ()), ())

    def test_later_than_told(self):
        story = ((9, 0), (8, 1), (7, 1), (6, 1))
        for most in range(5):
            late = [number for number in (1, 2, 3) if number > most]
            if late:
                self.refuses(InvalidStory, late[0], need_told, VALVE, (0, most), story)
            else:
                self.is_just(need_told(VALVE, (0, most), story), story)
        self.refuses(InvalidStory, 1, need_told, VALVE, (0, 0), story)
        self.refuses(InvalidStory, 3, need_told, VALVE, (2, 2), story)

    def test_first_wrong_one(self):
        for odd in (None, 3, (5,), (5, 0, 0), (5, 2), (5, True), (10 ** 6, 0), (-1, 0), (False, 0), "ab"):
            self.refuses(InvalidStory, 1, need_told, VALVE, (None, None), ((7, 0), odd, odd))
        self.refuses(InvalidStory, 2, need_told, VALVE, (None, 0), ((7, 0), (6, 0), (6, 0), (5, 1)))
        self.refuses(InvalidStory, 2, need_told, VALVE, (None, None), ((7, 0), (8, 0), (7, 1)))
        self.refuses(InvalidStory, -1, need_told, VALVE, (None, None), {})
        self.refuses(InvalidStory, -1, need_told, VALVE, (None, None), "")

    def test_bounds(self):
        story = [(moment, 0) for moment in range(400)]
        self.is_just(need_told(VALVE, (0, 0), story), tuple(story))
        self.refuses(InvalidStory, -1, need_told, VALVE, (0, 0), story + [(400, 0)])
        self.refuses(InvalidStory, -1, need_told, VALVE, (0, 0), [(400, 9)] * 401)
        falling = tuple(reversed(story))
        self.is_just(need_told(VALVE, (None, 0), falling), falling)
        self.refuses(InvalidStory, 13, need_told, VALVE, (12, 0), falling)
        self.is_just(need_told(VALVE, (0, 0), [(999999, 1)]), ((999999, 1),))


class ToldNeededTest(Case):
    def test_by_force(self):
        chance = Chance(35)
        for machine in mixed_machines(60, 36, states=4, kinds=3):
            kinds = len(machine[0])
            lateness = mixed_lateness(chance, kinds)
            for many in range(7):
                word = chance.word(kinds, many)
                self.is_just(told_sets(machine, lateness, word), sets_by_force(machine, lateness, word))
                self.is_just(told_relations(machine, lateness, list(word)), relations_by_force(machine, lateness, word))
                self.is_just(told_needed(machine, list(lateness), word), needed_by_force(machine, lateness, word))

    def test_empty_word(self):
        self.is_just(told_sets(RING, (0, 0), ()), ((0, 1, 2, 3),))
        self.is_just(told_relations(RING, (0, 3), ()), ((0, 1, 2, 3),))
        self.is_just(told_needed(RING, (None, 3), ()), ())

    def test_all_however_late(self):
        for machine in mixed_machines(40, 37):
            every = tuple(range(len(machine[0])))
            lateness = (None,) * len(every)
            for word in all_words(len(every), 3):
                self.is_just(told_sets(machine, lateness, word), word_sets(machine, every, word))
                self.is_just(told_relations(machine, lateness, word), word_relations(machine, every, word))
                self.is_just(told_needed(machine, lateness, word), needed_news(machine, every, word))

    def test_all_prompt(self):
        for machine in mixed_machines(40, 38):
            kinds = len(machine[0])
            for word in all_words(kinds, 3):
                self.is_just(told_needed(machine, (0,) * kinds, word), ())
                states = [run(machine, 0, word[:many]) for many in range(len(word))]
                sets = told_sets(machine, (0,) * kinds, word)
                self.is_just(sets[:-1], tuple((state,) for state in states))
                self.is_just(told_relations(machine, (0,) * kinds, word)[:-1],
                             word_relations(machine, (), word)[:-1])

    def test_numbers_matter(self):
        # Closings a news late at most: the last turn alone can be told from what comes.
        self.is_just(told_needed(VALVE, (0, 1), (0, 0, 0)), (2,))
        self.is_just(told_needed(VALVE, (0, 2), (0, 0, 0)), (1, 2))
        self.is_just(told_needed(VALVE, (0, None), (0, 0, 0)), (0, 1, 2))
        self.is_just(told_needed(VALVE, (None, 0), (1, 0, 0)), (0,))

    def test_what_is_free_stays_free(self):
        chance = Chance(39)
        for machine in mixed_machines(40, 40):
            lateness = mixed_lateness(chance, len(machine[0]))
            word = chance.word(len(machine[0]), 6)
            story = told_story(chance, lateness, 8)
            free = {}
            for many in range(len(story) + 1):
                news = sorted(story[:many])
                needed = told_needed(machine, lateness, tuple(kind for _, kind in news))
                moments = [moment for moment, _ in news]
                self.assertFalse([place for place in needed if moments[place] in free])
                free.update({moment: True for place, moment in enumerate(moments) if place not in needed})
            self.assertEqual(len(told_sets(machine, lateness, word)), 7)


class WindowTwinTest(Case):
    def follows(self, machine, lateness, story):
        twin = WindowTwin(machine, lateness)
        readings = story_readings(machine, range_of(machine), story)
        self.is_just((twin.marks(), twin.reading()), ((), readings[0]))
        for many, (moment, kind) in enumerate(story, 1):
            self.assertIsNone(twin.hear(moment, kind))
            news = sorted(story[:many])
            needed = told_needed(machine, lateness, tuple(own for _, own in news))
            last = len(news) - window(machine, lateness)
            marks = tuple(news[place][0] for place in range(many) if place in needed or place >= last)
            self.is_just((twin.marks(), twin.reading()), (marks, readings[many]))

    def test_stories(self):
        chance = Chance(41)
        for machine in mixed_machines(150, 42, states=4, kinds=3):
            lateness = mixed_lateness(chance, len(machine[0]))
            for many in (4, 9):
                self.follows(machine, lateness, told_story(chance, lateness, many))

    def test_all_orders(self):
        for lateness in ((None, 1), (1, 2), (2, None), (0, 1), (None, None)):
            for kinds in itertools.product(range(2), repeat=4):
                for moments in itertools.permutations(range(4)):
                    story = tuple(zip(moments, kinds))
                    try:
                        need_told(TURNS, lateness, story)
                    except InvalidStory:
                        continue
                    self.follows(TURNS, lateness, story)

    def test_window_greater_than_the_record(self):
        twin = WindowTwin(LATCH, (12, 3))
        for moment in (50, 40, 60, 20):
            twin.hear(moment, 0)
        self.is_just(twin.marks(), (20, 40, 50, 60))

    def test_refusals(self):
        twin = WindowTwin(VALVE, (None, 1))
        for moment, kind in ((10, 1), (20, 0), (30, 0)):
            twin.hear(moment, kind)
        self.is_just(twin.marks(), (10, 30))
        shown = twin.reading()
        for moment in (10, 30, -1, 10 ** 6, True, None, "5", (5,), 2.5):
            self.refuses(InvalidMoment, -1, twin.hear, moment, 0)
            self.refuses(InvalidMoment, -1, twin.hear, moment, 9)
        for kind in (2, -1, True, None, "1", (1,)):
            self.refuses(InvalidKind, -1, twin.hear, 40, kind)
        # One mark is greater than 20, two are greater than 5.
        self.refuses(InvalidKind, -1, twin.hear, 5, 1)
        self.is_just((twin.marks(), twin.reading()), ((10, 30), shown))
        twin.hear(moment=20, kind=1)
        self.assertIn(20, twin.marks())

    def test_errors_of_arguments(self):
        self.refuses(InvalidLateness, 1, WindowTwin, VALVE, (0, 13))
        self.refuses(InvalidMachine, -1, WindowTwin, 3, 3)

    def test_side_by_side(self):
        one, other = WindowTwin(VALVE, [1, 1]), WindowTwin(machine=as_lists(VALVE), lateness=(1, 1))
        one.hear(5, 0)
        self.is_just((one.marks(), one.reading(), other.marks(), other.reading()), ((5,), 1, (), 0))


def range_of(machine):
    return tuple(range(len(machine[0])))


class ToldMarksTest(Case):
    def by_force(self, machine, lateness, longest):
        least = most = 0
        last = window(machine, lateness)
        for word in all_words(len(machine[0]), longest):
            needed = told_needed(machine, lateness, word)
            least = max(least, len(needed))
            kept = [place for place in range(len(word)) if place in needed or place >= len(word) - last]
            most = max(most, len(kept))
        return (least, most)

    def test_by_force(self):
        for machine in mixed_machines(50, 43, states=3, kinds=2):
            kinds = len(machine[0])
            for lateness in itertools.product((None, 0, 1, 2), repeat=kinds):
                told = told_marks(machine, lateness)
                endless = tuple(kind for kind in range(kinds) if lateness[kind] is None)
                level = marks_needed(machine, endless)
                self.assertEqual(told is None, level is None)
                if told is not None:
                    self.is_just(told, self.by_force(machine, lateness, 6))
                    self.assertLessEqual(told[0], level + window(machine, lateness))
                    self.assertLessEqual(told[1], told[0] + window(machine, lateness))

    def test_marks_ahead_of_the_window(self):
        found = []
        # In the last two the first needed news come behind others.
        for machine in (
            VALVE, LAST, LATCH, steep_machine(3), steep_machine(4),
            (((2, 1, 1, 1), (0, 3, 2, 1)), (1, 1, 0, 0)), (((1, 1, 2, 2), (3, 2, 1, 2)), (0, 1, 0, 1)),
        ):
            for lateness in itertools.product((None, 0, 1, 2), repeat=2):
                told = told_marks(machine, lateness)
                if told is not None:
                    self.is_just(told, self.by_force(machine, lateness, 6))
                    found.append(told)
        for told in ((2, 3), (2, 4), (3, 3), (4, 4)):
            self.assertIn(told, found)

    def test_plain_ones(self):
        self.is_just(told_marks(VALVE, (None, None)), None)
        self.is_just(told_marks(VALVE, (0, None)), None)
        self.is_just(told_marks(VALVE, (0, 0)), (0, 0))
        self.is_just(told_marks(VALVE, (12, 0)), (1, 12))
        self.is_just(told_marks(VALVE, (0, 12)), (12, 12))
        self.is_just(told_marks(VALVE, [1, 0]), (1, 1))
        self.is_just(told_marks((((0,), (0,)), (0,)), (None, 5)), (0, 5))
