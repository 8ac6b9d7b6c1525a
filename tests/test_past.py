"""Promises [38] and [39]: news that can still move something, and the twin that tells the past."""

import itertools

from forgetwhen.errors import InvalidIndex, InvalidKind, InvalidLate, InvalidMachine, InvalidMoment
from forgetwhen.needed import needed_news, word_sets
from forgetwhen.past import (
    PastTwin, past_holds, past_marks, past_marks_hold, past_marks_paper, past_moments, past_needed, past_paper,
)
from forgetwhen.stories import record, state_at
from forgetwhen.web import forward_sets
from tests.support import (
    LAST, LATCH, ODD_VALUES, RING, VALVE, Case, Chance, all_words, changed_papers, has_list, mixed_machines, run,
)

# Words that are heard alike however long they are: the late kind 0 leads on to 3, there all stays.
STEPS = (((1, 2, 3, 3), (0, 1, 2, 3)), (0, 0, 0, 1))


def moving_by_force(machine, late, word):
    sets = word_sets(machine, late, word)
    return tuple(
        place for place, kind in enumerate(word)
        if any(machine[0][kind][state] != state for state in sets[place])
    )


class PastNeededTest(Case):
    def test_by_force(self):
        chance = Chance(38)
        for machine in mixed_machines(60, 39, states=5):
            late = chance.lot(len(machine[0]))
            for many in range(7):
                word = chance.word(len(machine[0]), many)
                self.is_just(past_needed(machine, late, word), moving_by_force(machine, late, word))
                # What is needed for the reading now can still move something.
                self.assertLessEqual(set(needed_news(machine, late, word)), set(past_needed(machine, late, list(word))))

    def test_moments(self):
        chance = Chance(40)
        for machine in mixed_machines(40, 41):
            late = chance.lot(len(machine[0]))
            story = chance.story(machine, late, 8)
            news = record(machine, late, story)
            places = past_needed(machine, late, [kind for _, kind in news])
            self.is_just(past_moments(machine, late, list(story)), tuple(news[place][0] for place in places))

    def test_plain_ones(self):
        self.is_just(past_needed(VALVE, (0,), (1, 1)), (0, 1))
        self.is_just(past_needed(VALVE, (), (1, 1, 0, 1)), (2, 3))
        self.is_just(past_needed(RING, (0, 1), ()), ())
        self.is_just(past_moments(VALVE, (), ((5, 1), (7, 0))), (7,))


class PastPaperTest(Case):
    def test_papers(self):
        chance = Chance(42)
        for machine in mixed_machines(60, 43, states=5):
            late = chance.lot(len(machine[0]))
            word = chance.word(len(machine[0]), 5)
            moving = moving_by_force(machine, late, word)
            for place in range(5):
                paper = past_paper(machine, late, word, place)
                self.assertFalse(has_list(paper))
                self.assertIs(past_holds(machine, late, word, place, paper), True)
                if place in moving:
                    name, words = paper
                    self.assertEqual((name, len(words)), ("moves", place + 1))
                    self.assertTrue(all(len(letters) < len(machine[1]) for letters in words))
                else:
                    self.is_just(paper, ("still", word_sets(machine, late, word)))

    def test_just_one_kind_holds(self):
        chance = Chance(44)
        for machine in mixed_machines(25, 45, states=3, kinds=2):
            late = chance.lot(len(machine[0]))
            word = chance.word(len(machine[0]), 2)
            every = [tuple(lot) for many in range(4) for lot in itertools.combinations(range(len(machine[1])), many)]
            late_words = [w for w in all_words(len(machine[0]), 2) if set(w) <= set(late)]
            for place in range(2):
                moves = [
                    past_holds(machine, late, word, place, ("moves", words))
                    for words in itertools.product(late_words, repeat=place + 1)
                ]
                still = [
                    past_holds(machine, late, word, place, ("still", sets))
                    for sets in itertools.product(every, repeat=3)
                ]
                moved = place in moving_by_force(machine, late, word)
                self.assertEqual((any(moves), any(still)), (moved, not moved))

    def test_changed_papers(self):
        for late, word, place in (((0,), (0, 1, 0, 0), 2), ((0,), (1, 0, 0), 1), ((0, 1), (0, 1, 1), 1), ((), (1,), 0)):
            for machine in (STEPS, LAST, VALVE):
                paper = past_paper(machine, late, word, place)
                for value in changed_papers(paper):
                    held = past_holds(machine, late, word, place, value)
                    self.assertIs(type(held), bool)
                    self.assertEqual(held, self.is_right(machine, late, word, place, value), value)

    def is_right(self, machine, late, word, place, value):
        """What the promise says, of a paper of which one part was changed."""
        if has_list(value) or not isinstance(value, tuple) or len(value) != 2 or not isinstance(value[1], tuple):
            return False
        name, parts = value
        states = range(len(machine[1]))
        if not all(isinstance(part, tuple) and all(type(n) is int for n in part) for part in parts):
            return False
        if name == "moves" and len(parts) == place + 1 and all(set(part) <= set(late) for part in parts):
            state = 0
            for gap, part in enumerate(parts):
                state = run(machine, state, part if gap == place else (*part, word[gap]))
            return machine[0][word[place]][state] != state
        if name != "still" or len(parts) != len(word) + 1 or not all(set(part) <= set(states) for part in parts):
            return False
        held = 0 in parts[0] and all(run(machine, s, (k,)) in part for part in parts for k in late for s in part)
        for gap, kind in enumerate(word):
            held = held and all(run(machine, s, (kind,)) in parts[gap + 1] for s in parts[gap])
        return held and all(run(machine, s, (word[place],)) == s for s in parts[place])

    def test_more_than_is_made(self):
        self.assertIs(past_holds(STEPS, (0,), (0,), 0, ("moves", ((0,) * 2,))), True)
        self.assertIs(past_holds(STEPS, (0,), (0,), 0, ("moves", ((0,) * 3,))), False)
        self.assertIs(past_holds(VALVE, (0, 1), (0,), 0, ("moves", ((0, 1) * 900,))), True)
        self.assertIs(past_holds(STEPS, (0,), (1,), 0, ("still", ((3, 2, 1, 0, 0), (0, 1, 2, 3)))), True)
        self.assertIs(past_holds(STEPS, (), (1,), 0, ("still", ((0, 2), (0, 1, 2)))), True)
        self.assertIs(past_holds(STEPS, (), (1,), 0, ("still", ((2,), (2,)))), False)
        self.assertIs(past_holds(STEPS, (), (1,), 0, ("still", ((0, True), (0, 1)))), False)

    def test_any_value(self):
        for value in ODD_VALUES:
            self.assertIs(past_holds(VALVE, (0, 1), (0, 1), 1, value), False)

    def test_no_news(self):
        for call, more in ((past_paper, ()), (past_holds, (3,))):
            for place in (2, -1, True, None, "0", (0,)):
                self.refuses(InvalidIndex, -1, call, VALVE, (0,), (0, 1), place, *more)
            self.refuses(InvalidIndex, -1, call, VALVE, (0,), (), 0, *more)


class PastTwinTest(Case):
    def follows(self, machine, late, story):
        twin = PastTwin(machine, late)
        for many in range(len(story) + 1):
            heard = story[:many]
            self.is_just(twin.marks(), past_moments(machine, late, heard))
            told = dict(heard)
            self.is_just(twin.kept_kinds(), tuple(told[moment] for moment in twin.marks()))
            asked = {0, 999999}
            for moment, _ in heard:
                asked |= {max(moment - 1, 0), moment, moment + 1}
            for moment in sorted(asked):
                self.is_just(twin.state_then(moment), state_at(machine, late, heard, moment))
            if many < len(story):
                self.assertIsNone(twin.hear(*story[many]))

    def test_stories(self):
        chance = Chance(46)
        for machine in mixed_machines(120, 47, states=5):
            late = chance.lot(len(machine[0]))
            self.follows(machine, late, chance.story(machine, late, 8))

    def test_all_orders(self):
        for kinds in itertools.product(range(2), repeat=4):
            for moments in itertools.permutations((1, 4, 7, 8)):
                self.follows(LAST, (0, 1), tuple(zip(moments, kinds)))
                self.follows(STEPS, (0, 1), tuple(zip(moments, kinds)))

    def test_states_of_this_machine(self):
        twin = PastTwin((((1, 0), (1, 1)), (5, 5)), (0,))
        twin.hear(4, 0)
        self.is_just([twin.state_then(moment) for moment in (3, 4)], [0, 1])

    def test_refusals(self):
        twin = PastTwin(VALVE, (0,))
        for moment, kind in ((10, 0), (20, 1), (30, 1)):
            twin.hear(moment, kind)
        told = (twin.marks(), twin.kept_kinds())
        self.is_just(told, ((10, 20, 30), (0, 1, 1)))
        for moment in (10, 30, -1, 10 ** 6, True, None, "5", (5,)):
            self.refuses(InvalidMoment, -1, twin.hear, moment, 0)
            self.refuses(InvalidMoment, -1, twin.hear, moment, 9)
        for kind in (2, -1, True, None, "1", (1,)):
            self.refuses(InvalidKind, -1, twin.hear, 40, kind)
        self.refuses(InvalidKind, -1, twin.hear, 25, 1)
        self.refuses(InvalidKind, -1, twin.hear, moment=0, kind=1)
        for moment in (-1, 10 ** 6, True, None, "5", (5,), []):
            self.refuses(InvalidMoment, -1, twin.state_then, moment)
        self.is_just((twin.marks(), twin.kept_kinds()), told)
        twin.hear(25, 0)
        twin.hear(31, 1)
        self.is_just(twin.marks(), (10, 20, 25, 30, 31))

    def test_errors_of_arguments(self):
        self.refuses(InvalidMachine, -1, PastTwin, 3, 3)
        self.refuses(InvalidLate, 1, PastTwin, VALVE, (0, 0))

    def test_side_by_side(self):
        one, other = PastTwin(VALVE, [0]), PastTwin([[[1, 0], [0, 0]], [0, 1]], late=(0,))
        one.hear(5, 0)
        self.is_just((one.marks(), one.state_then(moment=5), other.marks(), other.state_then(5)), ((5,), 1, (), 0))


def most_by_force(machine, late, longest):
    """The most moving news of words up to a length, and the first word with so many."""
    found = [(-len(past_needed(machine, late, word)), len(word), word) for word in all_words(len(machine[0]), longest)]
    many, _, word = min(found)
    return -many, word


class PastMarksTest(Case):
    def test_by_force(self):
        chance = Chance(48)
        level = 0
        for machine in mixed_machines(120, 49, states=4, kinds=2):
            late = chance.lot(len(machine[0]))
            most = past_marks(machine, late)
            paper = past_marks_paper(machine, late)
            self.assertFalse(has_list(paper))
            self.assertIs(past_marks_hold(machine, late, paper), True)
            if most is None:
                _, ahead, ring = paper
                for turns in range(4):
                    self.assertGreaterEqual(len(past_needed(machine, late, ahead + ring * turns)), turns)
                continue
            level += 1
            many, word = most_by_force(machine, late, 6)
            self.is_just((paper[0], paper[1], paper[3]), ("level", many, word))
            self.is_just(most, many)
            self.is_just(paper[2], heights_by_force(machine, late, 6))
            if late == tuple(range(len(machine[0]))):
                self.assertLess(most, len(machine[1]))
        self.assertGreater(level, 30)

    def test_plain_ones(self):
        self.is_just(past_marks(STEPS, (0, 1)), 3)
        self.is_just(past_marks_paper(STEPS, (0, 1)), ("level", 3, (0, 1, 2, 3), (0, 0, 0)))
        self.is_just(past_marks(VALVE, (0,)), None)
        self.is_just(past_marks((((0,),), (0,)), (0,)), 0)
        self.is_just(past_marks_paper((((0,),), (0,)), ()), ("level", 0, (0,), ()))

    def test_both_kinds(self):
        chance = Chance(50)
        for machine in mixed_machines(40, 51, states=3, kinds=2):
            late = chance.lot(len(machine[0]))
            level = past_marks(machine, late) is not None
            for ahead in all_words(len(machine[0]), 2):
                for ring in all_words(len(machine[0]), 3):
                    sets = word_sets(machine, late, ahead + ring)
                    moved = any(place >= len(ahead) for place in past_needed(machine, late, ahead + ring))
                    held = sets[-1] == sets[len(ahead)] and moved
                    self.assertIs(past_marks_hold(machine, late, ("grows", ahead, ring)), held)
                    self.assertFalse(held and level)

    def test_changed_level_papers(self):
        paper = past_marks_paper(STEPS, (0, 1))
        for value in changed_papers(paper):
            held = past_marks_hold(STEPS, (0, 1), value)
            self.assertIs(held, self.is_level(value), value)

    def is_level(self, value):
        if has_list(value) or not isinstance(value, tuple) or len(value) != 4 or value[0] != "level":
            return False
        _, most, heights, word = value
        if type(most) is not int or not isinstance(heights, tuple) or not isinstance(word, tuple) or len(heights) != 4:
            return False
        if not all(type(height) is int for height in heights) or not all(type(k) is int and k in (0, 1) for k in word):
            return False
        rises = all(heights[n + 1] > heights[n] for n in range(3))
        return rises and max(heights) - min(heights) <= most and len(past_needed(STEPS, (0, 1), word)) == most

    def test_other_level_papers(self):
        for heights, word, held in (
            ((5, 6, 7, 8), (0, 0, 0), True), ((-1, 0, 1, 2), (0, 1, 0, 1, 0), True), ((0, 1, 2, 4), (0, 0, 0), False),
            ((0, 1, 2, 3), (0,) * 5, True), ((0, 1, 2, 3), (0,) * 900, True), ((0, 1, 1, 3), (0,) * 3, False),
            ((0, 1, 2, 3), (0, 0), False), ((0, 1, 2), (0, 0, 0), False), ((0, 1, 2, 3, 3), (0, 0, 0), False),
        ):
            self.assertIs(past_marks_hold(STEPS, (0, 1), ("level", 3, heights, word)), held)
        self.assertIs(past_marks_hold(STEPS, (0, 1), ("level", 4, (0, 1, 2, 4), (0,) * 4)), False)
        self.assertIs(past_marks_hold((((0,),), (0,)), (0,), ("level", 0, (-7,), (0, 0))), True)
        self.assertIs(past_marks_hold((((0,),), (0,)), (0,), ("level", False, (0,), ())), False)

    def test_rings(self):
        for value, held in (
            (("grows", (), (1,)), True), (("grows", (), ()), False), (("grows", (0, 1), (1, 1)), True),
            (("grows", [], (1,)), False), (("grows", (), (2,)), False), (("grows", (), (True,)), False),
            (("grows", (), (1,), ()), False), (("level", (), (1,)), False), (("grows", (), (0, 1) * 900), True),
        ):
            self.assertIs(past_marks_hold(VALVE, (0,), value), held)
        self.assertIs(past_marks_hold(VALVE, (), ("grows", (), (1,))), False)
        self.assertIs(past_marks_hold(VALVE, (), ("grows", (0,), (1, 0))), True)
        self.assertIs(past_marks_hold(VALVE, (), ("grows", (0,), (1,))), False)
        # It moves on its way ahead alone.
        self.assertIs(past_marks_hold(LATCH, (), ("grows", (0,), (0,))), False)

    def test_changed_rings(self):
        held = 0
        for machine, late in ((VALVE, (0,)), (RING, ()), (LAST, (0,))):
            paper = past_marks_paper(machine, late)
            self.assertEqual(paper[0], "grows")
            for value in changed_papers(paper):
                right = self.is_ring(machine, late, value)
                held += right
                self.assertIs(past_marks_hold(machine, late, value), right, value)
            _, ahead, ring = paper
            self.assertIs(past_marks_hold(machine, late, ("grows", ahead, ring + ring)), True)
            self.assertIs(past_marks_hold(machine, late, ("grows", ahead + ring, ring)), True)
        self.assertGreater(held, 0)

    def is_ring(self, machine, late, value):
        if has_list(value) or not isinstance(value, tuple) or len(value) != 3 or value[0] != "grows":
            return False
        if not all(isinstance(word, tuple) and all(type(k) is int for k in word) for word in value[1:]):
            return False
        if not all(0 <= k < len(machine[0]) for word in value[1:] for k in word):
            return False
        _, ahead, ring = value
        sets = word_sets(machine, late, ahead + ring)
        moving = moving_by_force(machine, late, ahead + ring)
        return sets[-1] == sets[len(ahead)] and any(place >= len(ahead) for place in moving)

    def test_any_value(self):
        for value in ODD_VALUES:
            self.assertIs(past_marks_hold(VALVE, (0,), value), False)


def heights_by_force(machine, late, longest):
    """For each set the most moving steps of ways to it."""
    sets = forward_sets(machine, late)
    numbers = {states: number for number, states in enumerate(sets)}
    heights = [0] * len(sets)
    for word in all_words(len(machine[0]), longest):
        end = numbers[word_sets(machine, late, word)[-1]]
        heights[end] = max(heights[end], len(past_needed(machine, late, word)))
    return tuple(heights)
