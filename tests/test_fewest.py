"""Promise [18]."""

import unittest.mock

from forgetwhen import fewest
from forgetwhen.errors import InvalidLate, InvalidMachine, InvalidSize
from forgetwhen.fewest import fewest_words, least_twin, met_rows
from forgetwhen.late import steep_machine
from forgetwhen.least import least_machine
from forgetwhen.needed import needed_moments
from forgetwhen.stories import story_readings
from forgetwhen.tables import need_twin, twin_readings, twin_sizes, twin_stands
from forgetwhen.twins import LeastTwin, first_row, row_form, row_reading, row_step, rows_paper
from tests.support import LAST, LATCH, VALVE, Case, Chance, as_lists, lots_of, mixed_machines

# Not least: state 2 is as 0, and 3 is never come to.
BLOWN_UP = (((1, 2, 1, 0), (2, 0, 0, 3)), (0, 1, 0, 9))
MANY_ROWS = (((3, 2, 3, 0), (3, 3, 1, 3), (0, 1, 3, 1)), (1, 1, 0, 0))
# At first late news count to two; then it is three of the last five states, led about in all ways, that a row tells.
MANY_WORDS = (
    ((1, 2, 2, 3, 4, 5, 6, 7), (3, 4, 5, 4, 5, 6, 7, 3), (3, 4, 5, 4, 3, 5, 6, 7), (3, 4, 5, 4, 4, 5, 6, 7)),
    (0, 0, 0, 1, 0, 0, 0, 0),
)


def small_cases(seed, count):
    """(machine, late) for which there is a twin."""
    for machine in mixed_machines(count, seed, 3, 3, 2):
        for late in lots_of(len(machine[0])):
            try:
                met_rows(machine, late)
            except InvalidSize:
                continue
            yield machine, late


def met_by_force(machine, late):
    """The rows, and whereto they lead, one step at a time."""
    rows, forms, steps = [first_row(machine)], [row_form(machine, late, first_row(machine))], {}
    for at, row in enumerate(rows):
        marks = len(row[1])
        for place in range(marks + 1):
            for kind in range(len(machine[0])):
                if place < marks and kind not in late:
                    continue
                behind, kept = row_step(machine, late, row, place, kind)
                form = row_form(machine, late, behind)
                if form not in forms:
                    rows.append(behind)
                    forms.append(form)
                steps[at, place, kind] = (forms.index(form), kept)
    return rows, steps


class FewestTest(Case):
    def test_examples(self):
        self.is_just(fewest_words(LAST, (0, 1)), 2)
        self.is_just(met_rows(LAST, (0, 1)), (
            (((0, 1),), ()), (((0, 1), (0, 1)), (0,)), (((0, 1), (0, 1)), (1,)),
        ))
        self.is_just(least_twin(LAST, (0, 1)), (0, (
            (((((0, (0,)), (1, (0,))),), (((0, (1,)), (0, (1,))), ((0, (1,)), (1, (1,)))))),
            ((), (((1, (1,)), (1, (1,))), ((0, (1,)), (1, (1,))))),
        ), (0, 1)))
        self.is_just(least_twin(VALVE, ()), (0, (
            ((((1, ()), (0, ())),),), ((((0, ()), (0, ())),),),
        ), (0, 1)))
        self.is_just(fewest_words((((0,),), (4,)), (0,)), 1)
        self.is_just(least_twin((((0,),), (4,)), (0,)), (0, (((((0, ()),),),),), (4,)))

    def test_machines_that_are_not_least(self):
        self.assertNotEqual(least_machine(BLOWN_UP), BLOWN_UP)
        for late in lots_of(2):
            for call in (met_rows, fewest_words, least_twin):
                try:
                    wanted = call(least_machine(BLOWN_UP), late)
                except InvalidSize as error:
                    self.refuses(InvalidSize, error.word, call, BLOWN_UP, late)
                else:
                    self.is_just(call(BLOWN_UP, late), wanted)

    def test_rows(self):
        for machine, late in small_cases(1801, 25):
            rows, _ = met_by_force(least_machine(machine), late)
            self.is_just(met_rows(machine, late), tuple(rows))

    def test_rows_are_unlike(self):
        """Of two rows with as many marks some late words and a word on end are shown unlike."""
        for machine, late in small_cases(1802, 12):
            least = least_machine(machine)
            rows = met_rows(machine, late)
            for at, one in enumerate(rows):
                for other in rows[:at]:
                    if len(one[1]) == len(other[1]):
                        self.assertEqual(rows_paper(least, late, one, other)[0], "apart")

    def test_tables_entry_by_entry(self):
        for machine, late in small_cases(1803, 25):
            least = least_machine(machine)
            rows, steps = met_by_force(least, late)
            names = []
            for at, row in enumerate(rows):
                like = [one for one in rows[:at] if len(one[1]) == len(row[1])
                        and row_reading(least, one) == row_reading(least, row)]
                names.append((row_reading(least, row), len(like)))
            words = sorted(set(names))
            self.is_just(fewest_words(machine, late), len(words))
            first, rules, shown = least_twin(machine, late)
            self.is_just(need_twin(machine, (first, rules, shown)), (first, rules, shown))
            self.assertEqual(len(rules[0]), max(len(row[1]) for row in rows) + 1)
            self.is_just((first, shown), (words.index(names[0]), tuple(reading for reading, _ in words)))
            for word, name in enumerate(words):
                for marks, told in enumerate(rules[word]):
                    at = [at for at, row in enumerate(rows) if names[at] == name and len(row[1]) == marks]
                    if not at:
                        self.is_just(told, ())
                        continue
                    for place in range(marks + 1):
                        for kind in range(len(machine[0])):
                            if (at[0], place, kind) in steps:
                                behind, kept = steps[at[0], place, kind]
                                wanted = (words.index(names[behind]), kept)
                            else:
                                wanted = (word, tuple(mark for mark in range(marks + 1) if mark != place))
                            self.is_just(told[place][kind], wanted)

    def test_goes_along_as_the_least_twin(self):
        chance = Chance(1804)
        for machine, late in small_cases(1804, 25):
            table = least_twin(machine, late)
            story = chance.story(machine, late, 14, 100)
            self.is_just(twin_readings(machine, table, late, story), story_readings(machine, late, story))
            twin = LeastTwin(machine, late)
            stands = twin_stands(machine, table, late, story)
            self.is_just(stands[0], (table[0], ()))
            for many, (moment, kind) in enumerate(story, 1):
                twin.hear(moment, kind)
                self.is_just(stands[many][1], twin.marks())
                self.is_just(twin.marks(), needed_moments(machine, late, story[:many]))

    def test_bounds(self):
        for call in (met_rows, fewest_words, least_twin):
            # Marks that grow with the news, or more of them than a table may have.
            self.refuses(InvalidSize, "marks", call, VALVE, (0, 1))
            self.refuses(InvalidSize, "marks", call, steep_machine(6), (0, 1))
            self.refuses(InvalidSize, "rows", call, MANY_ROWS, (0,))
        self.assertEqual((fewest_words(MANY_WORDS, (0,)), len(met_rows(MANY_WORDS, (0,)))), (120, 128))
        self.refuses(InvalidSize, "words", least_twin, MANY_WORDS, (0,))
        self.is_just(twin_sizes(steep_machine(4), least_twin(steep_machine(4), (0, 1)))[1], 4)

    def test_just_at_the_bounds(self):
        """As many as may be are no error, one more is."""
        self.is_just((fewest.MOST_MARKS, fewest.MOST_ROWS, fewest.MOST_WORDS), (6, 420, 60))
        with unittest.mock.patch.multiple(fewest, MOST_ROWS=128, MOST_WORDS=120):
            self.assertEqual(len(met_rows(MANY_WORDS, (0,))), 128)
            self.assertEqual(len(least_twin(MANY_WORDS, (0,))[2]), 120)
        with unittest.mock.patch.multiple(fewest, MOST_ROWS=127):
            self.refuses(InvalidSize, "rows", met_rows, MANY_WORDS, (0,))
        with unittest.mock.patch.multiple(fewest, MOST_WORDS=119):
            self.refuses(InvalidSize, "words", least_twin, MANY_WORDS, (0,))
        # Six marks are let.
        self.is_just(twin_sizes(steep_machine(5), least_twin(steep_machine(5), (0, 1)))[1], 6)

    def test_wrong_arguments(self):
        for call in (met_rows, fewest_words, least_twin):
            self.refuses(InvalidMachine, -1, call, 5, 5)
            self.refuses(InvalidLate, 0, call, VALVE, (2,))
            self.is_just(call(as_lists(LATCH), [0]), call(LATCH, (0,)))
