"""Promises [40] to [42]: news that are withdrawn, how many marks they ask for, and the twin that hears of it."""

import itertools

from forgetwhen.errors import (
    InvalidGone, InvalidKind, InvalidLate, InvalidLot, InvalidMachine, InvalidMoment, Refused,
)
from forgetwhen.least import least_machine
from forgetwhen.machines import word_map
from forgetwhen.needed import needed_news
from forgetwhen.plants import kinds_apart
from forgetwhen.twins import LeastTwin, record_row, row_form
from forgetwhen.ways import marks_needed
from forgetwhen.withdrawn import (
    WithdrawnTwin, back_word, need_gone, need_withdrawn, standing_news, withdrawn_marks, withdrawn_readings,
)
from tests.support import LAST, ODD_VALUES, VALVE, Case, Chance, as_lists, lots_of, mixed_machines, run

# Kind 0 turns round three states, kind 1 turns two of them about, kind 2 leads all to the first one.
SPUN = (((1, 2, 0), (1, 0, 2), (0, 0, 0)), (0, 1, 2))
# States 0 and 2 are alike, so that kind 0 is one-to-one in the least machine alone; it is never led from 3 on.
DOUBLE = (((1, 2, 1, 3), (0, 0, 2, 0)), (0, 1, 0, 7))


def both_lots(late, gone):
    return tuple(sorted(set(late) | set(gone)))


def mixed_deeds(chance, machine, late, gone, many, moments=60):
    """A story with withdrawn news of at most so many deeds."""
    story, heard, stands, greatest = [], set(), {}, -1
    for _ in range(many):
        fit = sorted(moment for moment, kind in stands.items() if kind in gone)
        if fit and chance.below(3) == 0:
            moment = chance.pick(fit)
            story.append((moment, stands.pop(moment), 1))
            continue
        kind = chance.below(len(machine[0]))
        moment = chance.below(moments) if kind in late else greatest + 1 + chance.below(3)
        if moment not in heard:
            heard.add(moment)
            stands[moment] = kind
            greatest = max(greatest, moment)
            story.append((moment, kind, 0))
    return tuple(story)


def standing_by_force(story):
    return tuple(sorted(
        (moment, kind) for moment, kind, done in story if done == 0 and (moment, kind, 1) not in story
    ))


def reading_by_force(machine, story):
    return machine[1][run(machine, 0, [kind for _, kind in standing_by_force(story)])]


class NeedGoneTest(Case):
    def test_lots(self):
        self.is_just(need_gone(SPUN, [2, 0]), (0, 2))
        self.is_just(need_gone(SPUN, ()), ())
        for value in (None, 3, "01", {0: 1}, True):
            self.refuses(InvalidLot, -1, need_gone, SPUN, value)
        for odd in (3, -1, True, None, "0", (0,), 1):
            self.refuses(InvalidLot, 2, need_gone, SPUN, (1, 2, odd, odd))


class NeedWithdrawnTest(Case):
    def test_right_ones(self):
        story = ((5, 0, 0), (9, 1, 0), (5, 0, 1), (3, 0, 0), (10, 1, 0), (9, 1, 1))
        self.is_just(need_withdrawn(VALVE, (0,), (0, 1), as_lists(story)), story)
        self.is_just(need_withdrawn(VALVE, (), [1], [(5, 1, 0), [5, 1, 1], (6, 1, 0)]), ((5, 1, 0), (5, 1, 1), (6, 1, 0)))
        self.is_just(need_withdrawn(VALVE, (), (), ()), ())

    def test_what_does_not_fit(self):
        heard = ((5, 0, 0), (9, 1, 0), (7, 0, 0))
        for deed in (
            (5, 0, 0), (9, 0, 0), (8, 1, 0), (6, 0, 1), (5, 1, 1), (9, 0, 1), (9, 1, 1), (10, 0, 1),
        ):
            self.refuses(InvalidGone, 3, need_withdrawn, VALVE, (0,), (0,), (*heard, deed, deed))
        # Withdrawn twice; what was withdrawn does not come again; withdrawn before it is heard.
        self.refuses(InvalidGone, 4, need_withdrawn, VALVE, (0,), (0,), (*heard, (5, 0, 1), (5, 0, 1)))
        self.refuses(InvalidGone, 4, need_withdrawn, VALVE, (0,), (0,), (*heard, (5, 0, 1), (5, 0, 0)))
        self.refuses(InvalidGone, 0, need_withdrawn, VALVE, (0,), (0,), ((5, 0, 1), (5, 0, 0)))
        # A prompt kind below a withdrawn moment.
        self.refuses(InvalidGone, 2, need_withdrawn, VALVE, (0,), (1,), ((9, 1, 0), (9, 1, 1), (8, 1, 0)))
        self.is_just(len(need_withdrawn(VALVE, (0,), (1,), ((9, 1, 0), (9, 1, 1), (8, 0, 0)))), 3)

    def test_no_deeds(self):
        for odd in (
            None, 3, "abc", (5, 0), (5, 0, 0, 0), (5, 0, 2), (5, 0, True), (5, 0, False), (5, True, 0), (True, 0, 0),
            (10 ** 6, 0, 0), (-1, 0, 0), (5, 2, 0), (5, None, 0), ([], 0, 0), (5, [0], 0), (5, 0, -1), (5, 0, None),
        ):
            self.refuses(InvalidGone, 1, need_withdrawn, VALVE, (0, 1), (0, 1), ((999999, 0, 0), odd, odd))
        for odd in ODD_VALUES:
            if not isinstance(odd, (list, tuple)):
                self.refuses(InvalidGone, -1, need_withdrawn, VALVE, (0, 1), (0, 1), odd)
            elif odd:
                self.refuses(InvalidGone, 0, need_withdrawn, VALVE, (0, 1), (0, 1), odd)

    def test_bounds(self):
        story = []
        for moment in range(1000):
            story.extend([(moment, 0, 0), (moment, 0, 1)])
        self.is_just(need_withdrawn(VALVE, (), (0,), story), tuple(story))
        self.is_just(withdrawn_readings(VALVE, (), (0,), story), (0, 1) * 1000 + (0,))
        self.refuses(InvalidGone, -1, need_withdrawn, VALVE, (), (0,), story + [(1000, 0, 0)])
        self.refuses(InvalidGone, -1, need_withdrawn, VALVE, (), (0,), [None] * 2001)
        heard = [(moment, 0, 0) for moment in reversed(range(2000))]
        self.is_just(standing_news(VALVE, (0,), (), heard), tuple((moment, 0) for moment in range(2000)))


class StandingTest(Case):
    def test_by_force(self):
        chance = Chance(40)
        for machine in mixed_machines(80, 41):
            late, gone = chance.lot(len(machine[0])), chance.lot(len(machine[0]))
            story = mixed_deeds(chance, machine, late, gone, 14)
            self.is_just(standing_news(machine, late, gone, list(story)), standing_by_force(story))
            right = tuple(reading_by_force(machine, story[:many]) for many in range(len(story) + 1))
            self.is_just(withdrawn_readings(machine, late, gone, story), right)

    def test_plain_ones(self):
        story = ((20, 1, 0), (30, 0, 0), (10, 0, 0), (30, 0, 1))
        self.is_just(standing_news(VALVE, (0,), (0,), story), ((10, 0), (20, 1)))
        self.is_just(withdrawn_readings(VALVE, (0,), (0,), story), (0, 0, 1, 1, 0))
        self.is_just(withdrawn_readings((((0,),), (7,)), (), (), ()), (7,))


class BackWordTest(Case):
    def test_words(self):
        self.is_just([back_word(SPUN, kind) for kind in range(3)], [(0, 0), (1,), None])
        self.is_just([back_word(VALVE, kind) for kind in range(2)], [(0,), None])
        self.is_just(back_word((((0, 1), (1, 0)), (0, 1)), 0), ())
        fifteen = (((1, 2, 0, 4, 5, 6, 7, 3), (3, 0, 1, 2, 4, 5, 6, 7)), (0, 1, 2, 3, 4, 5, 6, 7))
        self.is_just(back_word(fifteen, 0), (0,) * 14)

    def test_least_machine_alone_counts(self):
        self.is_just(back_word(DOUBLE, 0), (0,))
        self.is_just(back_word(DOUBLE, 1), None)
        # All show the same: nothing is to be undone.
        self.is_just(back_word((((1, 1), (0, 0)), (4, 4)), 0), ())

    def test_by_force(self):
        for machine in mixed_machines(150, 42):
            least = least_machine(machine)
            same = tuple(range(len(least[1])))
            for kind in range(len(machine[0])):
                words = [(kind,) * many for many in range(13)]
                right = [word for word in words if word_map(least, (kind, *word)) == same]
                self.is_just(back_word(machine, kind), right[0] if right else None)

    def test_no_kind(self):
        for kind in (2, -1, True, None, "0", (0,)):
            self.refuses(InvalidKind, -1, back_word, VALVE, kind)


class WithdrawnMarksTest(Case):
    def test_lots(self):
        for machine in mixed_machines(40, 43, states=3, kinds=3):
            kinds = len(machine[0])
            for late, gone in itertools.product(lots_of(kinds), repeat=2):
                fixed = [kind for kind in gone if back_word(machine, kind) is None]
                right = None if fixed else marks_needed(machine, both_lots(late, gone))
                self.is_just(withdrawn_marks(machine, late, gone[::-1]), right)

    def test_plain_ones(self):
        self.is_just(withdrawn_marks(VALVE, (), ()), 0)
        self.is_just(withdrawn_marks(VALVE, (0,), (0,)), 1)
        self.is_just(withdrawn_marks(VALVE, (), (1,)), None)
        self.is_just(withdrawn_marks(VALVE, (1,), (0,)), None)
        self.is_just(withdrawn_marks(LAST, (0, 1), ()), 1)
        self.is_just(withdrawn_marks(LAST, (0, 1), (1,)), None)
        self.is_just(withdrawn_marks(DOUBLE, (), (0,)), 1)

    def test_no_mark_at_all(self):
        for machine in mixed_machines(60, 44, states=3, kinds=2):
            least = least_machine(machine)
            kinds = range(len(machine[0]))
            for late, gone in itertools.product(lots_of(len(machine[0])), repeat=2):
                easy = all(
                    word_map(least, (one, kind)) == word_map(least, (kind, one))
                    for one in both_lots(late, gone) for kind in kinds
                ) and all(len(set(least[0][kind])) == len(least[1]) for kind in gone)
                self.assertEqual(withdrawn_marks(machine, late, gone) == 0, easy)


def fitting(chance, machines):
    """(machine, late, gone) such that what is gone can be undone."""
    for machine in machines:
        kinds = len(machine[0])
        undone = [kind for kind in range(kinds) if back_word(machine, kind) is not None]
        yield machine, chance.lot(kinds), tuple(kind for kind in undone if chance.below(3))


def turned_machines(count, seed, states=4):
    """Machines of which some kinds are one-to-one, some with more states than are needed."""
    chance = Chance(seed)
    for _ in range(count):
        many = 2 + chance.below(states - 1)
        maps = []
        for _ in range(1 + chance.below(3)):
            one = list(range(many))
            if chance.below(3):
                for at in range(many):
                    other = chance.below(many)
                    one[at], one[other] = one[other], one[at]
            else:
                one = [chance.below(many) for _ in range(many)]
            maps.append(tuple(one))
        machine = (tuple(maps), tuple(chance.below(3) for _ in range(many)))
        yield doubled(chance, machine) if chance.below(3) == 0 else machine


def doubled(chance, machine):
    """A machine that shows the same, with a double for its last state."""
    maps, readings = machine
    last = len(readings) - 1
    maps = [[*one, one[last]] for one in maps]
    maps = [tuple(last + chance.below(2) if state == last else state for state in one) for one in maps]
    return (tuple(maps), (*readings, readings[last]))


class WithdrawnTwinTest(Case):
    def follows(self, machine, late, gone, story):
        both = both_lots(late, gone)
        twin = WithdrawnTwin(machine, late, gone)
        most = withdrawn_marks(machine, late, gone)
        for many in range(len(story) + 1):
            stands = standing_by_force(story[:many])
            word = tuple(kind for _, kind in stands)
            needed = tuple(stands[place][0] for place in needed_news(machine, both, word))
            self.is_just((twin.marks(), twin.reading()), (needed, reading_by_force(machine, story[:many])))
            right = record_row(machine, both, word)
            self.is_just(row_form(machine, both, twin.row()), row_form(machine, both, right))
            self.assertEqual(twin.row()[1], right[1])
            if most is not None:
                self.assertLessEqual(len(needed), most)
            if many < len(story):
                moment, kind, done = story[many]
                self.assertIsNone(twin.withdraw(moment, kind) if done else twin.hear(moment, kind))

    def test_stories(self):
        chance = Chance(45)
        withdrawn = 0
        for machine, late, gone in fitting(chance, turned_machines(200, 46)):
            story = mixed_deeds(chance, machine, late, gone, 18)
            withdrawn += len([deed for deed in story if deed[2]])
            self.follows(machine, late, gone, story)
        self.assertGreater(withdrawn, 300)

    def test_all_orders(self):
        for kinds in itertools.product(range(3), repeat=3):
            for moments in itertools.permutations((2, 5, 8)):
                heard = tuple((moment, kind, 0) for moment, kind in zip(moments, kinds))
                for back in itertools.permutations([deed for deed in heard if deed[1] < 2]):
                    story = heard + tuple((moment, kind, 1) for moment, kind, _ in back)
                    self.follows(SPUN, (0, 1, 2), (0, 1), story)

    def test_free_news_between_marks(self):
        # News of kind 2 are free, they move a plant of their own.
        turns = ((SPUN[0][0], SPUN[0][1]), SPUN[1])
        machine, late = kinds_apart(turns, (0, 1), (((1, 0),), (0, 1)), (0,))
        chance = Chance(49)
        for _ in range(30):
            self.follows(machine, late, (0, 1, 2), mixed_deeds(chance, machine, late, (0, 1, 2), 18))

    def test_prompt_kinds_withdrawn(self):
        self.follows(VALVE, (), (0,), ((10, 0, 0), (20, 1, 0), (30, 0, 0), (10, 0, 1), (40, 1, 0), (30, 0, 1)))
        self.follows(DOUBLE, (), (0,), ((10, 0, 0), (20, 1, 0), (30, 0, 0), (10, 0, 1), (40, 0, 0), (30, 0, 1)))

    def test_without_withdrawn_news_it_is_the_least_twin(self):
        chance = Chance(47)
        for machine in mixed_machines(30, 48):
            late = chance.lot(len(machine[0]))
            one, other = WithdrawnTwin(machine, late, ()), LeastTwin(machine, late)
            for moment, kind in chance.story(machine, late, 10):
                one.hear(moment, kind)
                other.hear(moment, kind)
                self.is_just((one.marks(), one.row(), one.reading()), (other.marks(), other.row(), other.reading()))

    def test_refused(self):
        self.refuses(Refused, 1, WithdrawnTwin, VALVE, (), (1, 0))
        self.refuses(Refused, 0, WithdrawnTwin, LAST, (0, 1), (1, 0))
        self.refuses(Refused, 2, WithdrawnTwin, SPUN, (0,), (2, 1))
        self.refuses(InvalidLot, 1, WithdrawnTwin, SPUN, (0,), (2, 2))
        self.refuses(InvalidMachine, -1, WithdrawnTwin, 3, 3, 3)
        self.refuses(InvalidLate, -1, WithdrawnTwin, SPUN, 3, 3)
        self.assertIsNone(WithdrawnTwin(DOUBLE, [], [0]).withdraw(5, 0))

    def test_refusals(self):
        twin = WithdrawnTwin(SPUN, (0,), (0, 1))
        for moment, kind in ((10, 1), (20, 2), (30, 1), (40, 0)):
            twin.hear(moment, kind)
        told = (twin.marks(), twin.row(), twin.reading())
        self.is_just(twin.marks(), (20, 30, 40))
        for moment in (20, -1, 10 ** 6, True, None, "5", (5,)):
            self.refuses(InvalidMoment, -1, twin.hear, moment, 0)
            self.refuses(InvalidMoment, -1, twin.hear, moment, 9)
        for kind in (3, -1, True, None, "1", (1,)):
            self.refuses(InvalidKind, -1, twin.hear, 50, kind)
        for kind in (1, 2):
            self.refuses(InvalidKind, -1, twin.hear, 35, kind)
        for moment in (-1, 10 ** 6, True, None, "5", (5,)):
            self.refuses(InvalidMoment, -1, twin.withdraw, moment, 0)
            self.refuses(InvalidMoment, -1, twin.withdraw, moment, 2)
        for kind in (2, 3, -1, True, False, None, "1", (1,), []):
            self.refuses(InvalidKind, -1, twin.withdraw, 30, kind)
            self.refuses(InvalidKind, -1, twin.withdraw, 35, kind)
        self.refuses(InvalidMoment, -1, twin.withdraw, 20, 0)
        self.refuses(InvalidMoment, -1, twin.withdraw, 30, 0)
        self.refuses(InvalidMoment, -1, twin.withdraw, moment=40, kind=1)
        self.is_just((twin.marks(), twin.row(), twin.reading()), told)
        twin.withdraw(30, 1)
        twin.withdraw(moment=40, kind=0)
        twin.withdraw(10, 1)
        self.is_just((twin.marks(), twin.reading()), ((20,), 0))

    def test_side_by_side(self):
        one, other = WithdrawnTwin(VALVE, [0], [0]), WithdrawnTwin(machine=as_lists(VALVE), late=(0,), gone=(0,))
        one.hear(moment=5, kind=1)
        self.is_just((one.marks(), other.marks(), other.reading()), ((5,), (), 0))
