"""Promise [11]."""

from forgetwhen.errors import InvalidLate, InvalidMachine, InvalidStory, InvalidTwin
from forgetwhen.stories import story_readings
from forgetwhen.tables import first_wrong, need_twin, twin_readings, twin_sizes, twin_stands
from tests.support import EIGHT, ODD_VALUES, VALVE, Case, Chance, as_lists, mixed_machines

ONE = (((0,),), (7,))
# For the valve, turns late: the moment of the last closing is kept; words are what is shown.
CLOSING = (
    0,
    (
        ((((1, ()), (0, (0,))),), (((0, (1,)), (0, (1,))), ((1, (0,)), (0, (1,))))),
        ((((0, ()), (0, (0,))),), (((1, (1,)), (1, (1,))), ((0, (0,)), (0, (1,))))),
    ),
    (0, 1),
)
NO_RULES = (0, (((),),), (0,))
# Two words, the later one without rules; the first news of kind 0 lead there.
LOST = (0, (((((1, ()), (0, ())),),), ((),)), (0, 1))


def full_table(words, most, kinds, chance):
    """A table with rules everywhere."""
    rules = []
    for _ in range(words):
        row = []
        for number in range(most + 1):
            places = []
            for _ in range(number + 1):
                pairs = []
                for _ in range(kinds):
                    kept = [mark for mark in range(number + 1) if chance.below(3)]
                    pairs.append((chance.below(words), tuple(kept[:most])))
                places.append(tuple(pairs))
            row.append(tuple(places))
        rules.append(tuple(row))
    return (chance.below(words), tuple(rules), tuple(chance.below(100) for _ in range(words)))


def stands_by_force(twin, story):
    word, marks = twin[0], []
    stands = [(word, ())]
    for moment, kind in story:
        place = sum(1 for mark in marks if mark < moment)
        word, kept = twin[1][word][len(marks)][place][kind]
        moments = sorted(marks + [moment])
        marks = [moments[number] for number in kept]
        stands.append((word, tuple(marks)))
    return tuple(stands)


class NeedTwinTest(Case):
    def test_lists_and_tuples(self):
        chance = Chance(60)
        tables = [(VALVE, CLOSING), (ONE, NO_RULES), (VALVE, LOST)]
        for words, most, kinds in ((1, 0, 1), (60, 1, 1), (3, 6, 4), (60, 6, 2)):
            machine = ((EIGHT[0][0],) * kinds, EIGHT[1])
            tables.append((machine, full_table(words, most, kinds, chance)))
        for machine, twin in tables:
            self.is_just(need_twin(machine, twin), twin)
            self.is_just(need_twin(machine, as_lists(twin)), twin)
            self.is_just(twin_sizes(machine, as_lists(twin)), (len(twin[2]), len(twin[1][0]) - 1))
        self.is_just(twin_sizes(VALVE, CLOSING), (2, 1))
        self.is_just(twin_sizes(ONE, NO_RULES), (1, 0))

    def test_result_is_its_own(self):
        told = as_lists(CLOSING)
        twin = need_twin(VALVE, told)
        told[1][0][0][0][0][1].append(5)
        told[2][0] = 9
        self.is_just(twin, CLOSING)

    def test_no_triple(self):
        rules, shown = CLOSING[1:]
        for value in (
            *ODD_VALUES, (0, rules), (0, rules, shown, 0), (2, rules, shown), (-1, rules, shown),
            (True, rules, shown), (None, rules, shown), ("0", rules, shown), (0, rules, (0,)), (0, rules, (0, 1, 0)),
            (0, (), ()), (0, ((),) * 61, (0,) * 61), (0, "ab", shown), (0, rules, "ab"), (0, None, shown),
            (0, rules, None), (2, ((), ()), (100, 100)), (0, {0: 1, 1: 2}, shown),
        ):
            self.refuses(InvalidTwin, -1, need_twin, VALVE, value)
            self.refuses(InvalidTwin, -1, twin_sizes, VALVE, value)

    def test_numbers_of_marks(self):
        empty = ((), ())
        for wrong in ((), ((),) * 8, None, 3, "ab", True):
            self.refuses(InvalidTwin, 0, need_twin, ONE, (0, (wrong, empty), (0, 0)))
            self.refuses(InvalidTwin, 1, need_twin, ONE, (0, (empty, wrong), (0, 0)))
        for many in (1, 3, 7):
            self.refuses(InvalidTwin, 1, need_twin, ONE, (0, (empty, ((),) * many, empty), (0, 0, 100)))
        self.is_just(need_twin(ONE, (0, (((),) * 7,), (0,))), (0, (((),) * 7,), (0,)))

    def test_wrong_readings(self):
        rules = ((((),)) * 3,) * 3
        for wrong in (-1, 100, True, None, "0", (0,)):
            for at in range(3):
                shown = [0, 0, 0]
                shown[at] = wrong
                self.refuses(InvalidTwin, at, need_twin, ONE, (0, rules, shown))
            self.refuses(InvalidTwin, 1, need_twin, ONE, (0, rules, (0, wrong, wrong)))
        self.is_just(need_twin(ONE, (0, rules, (99, 0, 99))), (0, rules, (99, 0, 99)))

    def test_first_wrong_word(self):
        for wrong in (
            None, 3, "ab", ((),), (((0, ()),),) * 3, (((0, ()), (0, ())), ((0, ()), (0, ())), ((0, ()), (0, ()))),
            (((0, ()),), ((0, ()), (0, ()))), (((0, ()), (0, ())), ((0, ()),)), (((0, ()), (0, ())), None),
            (((0, ()), (0, ())), ((0, ()), (0, (), ()))), (((0, ()), (0, ())), ((0, ()), (0,))),
            (((0, ()), (0, ())), ((0, ()), None)), (((0, ()), (0, ())), ((0, ()), (3, ()))),
            (((0, ()), (0, ())), ((0, ()), (-1, ()))), (((0, ()), (0, ())), ((0, ()), (True, ()))),
            (((0, ()), (0, ())), ((0, ()), (0, (2,)))), (((0, ()), (0, ())), ((0, ()), (0, (-1,)))),
            (((0, ()), (0, ())), ((0, ()), (0, (True,)))), (((0, ()), (0, ())), ((0, ()), (0, (0, 1)))),
            (((0, ()), (0, ())), ((0, ()), (0, (0, 0)))), (((0, ()), (0, ())), ((0, ()), (0, None))),
            (((0, ()), (0, ())), ((0, ()), (0, 0))),
        ):
            # Wrong is what becomes of one mark, where the table may have one.
            for at in range(3):
                rules = [((), ()), ((), ()), ((), ())]
                rules[at] = ((), wrong)
                self.refuses(InvalidTwin, at, need_twin, VALVE, (0, rules, (0, 0, 0)))
                self.refuses(InvalidTwin, 0, need_twin, VALVE, (0, rules, (100, 0, 0)))
                rules[2] = (None, None)
                self.refuses(InvalidTwin, at, need_twin, VALVE, (0, rules, (0, 0, 0)))
        right = ((), (((0, ()), (2, (1,))), ((0, (0,)), (1, ()))))
        self.is_just(need_twin(VALVE, (0, (right,) * 3, (0, 0, 0))), (0, (right,) * 3, (0, 0, 0)))

    def test_kept_ones(self):
        for kept, most, right in (
            ((0, 1), 2, True), ((1, 0), 2, False), ((1, 1), 2, False), ((0, 2), 2, False), ((0, 1), 1, False),
            ((1,), 1, True), ((), 1, True), ([0, 1], 2, True),
        ):
            places = (((0, kept),), ((0, ()),))
            rules = (((), places, ())[:most + 1],)
            if right:
                self.is_just(need_twin(ONE, (0, rules, (0,)))[1][0][1][0][0], (0, tuple(kept)))
            else:
                self.refuses(InvalidTwin, 0, need_twin, ONE, (0, rules, (0,)))
        # Without marks nothing is kept.
        self.refuses(InvalidTwin, 0, need_twin, ONE, (0, (((((0, (0,)),),),),), (0,)))

    def test_kinds_of_the_machine(self):
        self.refuses(InvalidTwin, 0, need_twin, ONE, CLOSING)
        self.refuses(InvalidMachine, -1, need_twin, None, None)


class StandsTest(Case):
    def test_examples(self):
        story = ((20, 1), (30, 0), (10, 0), (25, 0))
        stands = ((0, ()), (0, (20,)), (1, (20,)), (1, (20,)), (0, (20,)))
        self.is_just(twin_stands(VALVE, CLOSING, (0,), story), stands)
        self.is_just(twin_stands(VALVE, as_lists(CLOSING), [0], as_lists(story)), stands)
        self.is_just(twin_readings(VALVE, CLOSING, (0,), story), (0, 0, 1, 1, 0))
        self.is_just(first_wrong(VALVE, CLOSING, (0,), story), None)
        self.is_just(twin_stands(VALVE, CLOSING, (), ()), ((0, ()),))

    def test_by_force(self):
        chance = Chance(61)
        for machine in mixed_machines(60, 61):
            kinds = len(machine[0])
            late = chance.lot(kinds)
            twin = full_table(1 + chance.below(4), chance.below(4), kinds, chance)
            story = chance.story(machine, late, 9, 30)
            stands = stands_by_force(twin, story)
            self.is_just(twin_stands(machine, twin, late, story), stands)
            readings = tuple(twin[2][word] for word, _ in stands)
            self.is_just(twin_readings(machine, twin, late, story), readings)
            right = story_readings(machine, late, story)
            wrong = [many for many, reading in enumerate(readings) if reading != right[many]]
            self.is_just(first_wrong(machine, twin, late, story), wrong[0] if wrong else None)

    def test_right_table(self):
        chance = Chance(62)
        for _ in range(200):
            story = chance.story(VALVE, (0,), 12, 40)
            self.is_just(twin_readings(VALVE, CLOSING, (0,), story), story_readings(VALVE, (0,), story))
            self.is_just(first_wrong(VALVE, CLOSING, (0,), story), None)

    def test_wrong_beginnings(self):
        self.is_just(first_wrong(VALVE, (1, *CLOSING[1:]), (0,), ()), 0)
        self.is_just(first_wrong(VALVE, (*CLOSING[:2], (0, 2)), (0,), ((5, 1), (6, 0), (7, 0))), 2)
        self.is_just(first_wrong(VALVE, CLOSING, (0, 1), ((5, 1), (7, 0), (3, 1), (9, 0))), None)
        self.is_just(first_wrong(VALVE, CLOSING, (0, 1), ((5, 1), (7, 0), (6, 1))), 3)
        self.is_just(first_wrong(VALVE, CLOSING, (0, 1), ((5, 1), (7, 0), (6, 1), (4, 0), (8, 0))), 3)
        self.is_just(first_wrong(VALVE, CLOSING, (0, 1), ((8, 0), (5, 1), (9, 0))), 2)

    def test_rules_that_are_empty(self):
        self.is_just(twin_stands(VALVE, LOST, (0,), ((5, 1), (6, 1), (7, 0))), ((0, ()), (0, ()), (0, ()), (1, ())))
        for call in (twin_stands, twin_readings, first_wrong):
            self.refuses(InvalidTwin, 0, call, ONE, NO_RULES, (), ((5, 0),))
            self.refuses(InvalidTwin, 1, call, VALVE, LOST, (0,), ((5, 1), (6, 0), (7, 0)))
            # Behind a wrong reading, too.
            self.refuses(InvalidTwin, 1, call, VALVE, (0, LOST[1], (5, 5)), (0,), ((5, 1), (6, 0), (7, 0)))
        self.is_just(first_wrong(ONE, NO_RULES, (), ()), 0)
        self.is_just(first_wrong(ONE, (0, (((),),), (7,)), (), ()), None)

    def test_many_news(self):
        story = tuple((moment, moment % 2) for moment in range(400))
        self.assertEqual(len(twin_stands(VALVE, CLOSING, (0,), story)), 401)
        self.is_just(first_wrong(VALVE, CLOSING, (0,), story), None)
        for call in (twin_stands, twin_readings, first_wrong):
            self.refuses(InvalidStory, -1, call, VALVE, CLOSING, (0,), (*story, (400, 0)))

    def test_order_of_errors(self):
        for call in (twin_stands, twin_readings, first_wrong):
            self.refuses(InvalidMachine, -1, call, None, None, None, None)
            self.refuses(InvalidTwin, -1, call, VALVE, None, None, None)
            self.refuses(InvalidLate, -1, call, VALVE, CLOSING, None, None)
            self.refuses(InvalidStory, -1, call, VALVE, CLOSING, (), None)
            self.refuses(InvalidStory, 2, call, VALVE, LOST, (0,), ((6, 0), (7, 0), (5, 1)))
