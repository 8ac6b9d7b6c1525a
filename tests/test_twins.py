"""Promises [15], [16] and [17]."""

import itertools

from forgetwhen.errors import InvalidIndex, InvalidItems, InvalidKind, InvalidLate, InvalidMachine, InvalidMoment
from forgetwhen.errors import InvalidWord, Refused
from forgetwhen.needed import needed_moments, needed_news, word_relations
from forgetwhen.stories import record, story_readings
from forgetwhen.twins import (
    LeastTwin, first_row, record_row, row_form, row_needed, row_reading, row_state, row_step, rows_hold, rows_paper,
)
from tests.support import (
    EIGHT, LAST, LATCH, ODD_VALUES, RING, VALVE, Case, Chance, all_words, as_lists, changed_papers, has_list, lots_of,
    mixed_machines, run,
)

NOT_LEAST = (((1, 2, 1), (0, 0, 0)), (0, 1, 0))

# No rows of the valve: a row of it is, say, (((0, 1), (1, 0)), (1,)).
NO_ROWS = (
    ((), ()), (((0, 1),), (0,)), (((0, 1), (0, 1)), ()), (((0, 1), (0, 2)), (1,)), (((0, 1), (0,)), (1,)),
    (((0, 1), (0, 1, 1)), (1,)), (((0, 1), (0, 1)), (2,)), (((0, 1), (0, 1)), (-1,)), (((0, 1), (0, 1)), (True,)),
    (((False, 1), (0, 1)), (1,)), (((0, 1), (0, 1)), (1,), ()), (((0, 1), (0, 1)),), ("01", ()), (((0, 1), "01"), (1,)),
    (((0, 1), (0, 1)), "1"), (((0, 1), (0, 1)), {1: 1}), {0: ((0, 1),), 1: ()}, (((0, 1),) * 402, (0,) * 401),
) + ODD_VALUES


def chance_row(chance, machine, many):
    states = len(machine[1])
    maps = tuple(chance.word(states, states) for _ in range(many + 1))
    return (maps, chance.word(len(machine[0]), many))


def cases(seed, count=60, marks=4):
    """(machine, late, row, another row of as many marks), half of them rows of words."""
    chance = Chance(seed)
    for machine in mixed_machines(count, seed, 4, 3, 3):
        late, many = chance.lot(len(machine[0])), chance.below(marks + 1)
        rows = [chance_row(chance, machine, many) for _ in range(2)]
        if chance.below(2):
            words = [[chance.word(len(machine[0]), chance.below(3)) for _ in range(many + 1)] for _ in range(2)]
            kinds = chance.word(len(machine[0]), many)
            states = range(len(machine[1]))
            rows = [
                (tuple(tuple(run(machine, state, word) for state in states) for word in told), kinds) for told in words
            ]
        yield machine, late, rows[0], rows[1]


def ways(machine, row):
    """For each mark the map of its kind and what lies behind it."""
    return [[one[machine[0][kind][state]] for state in range(len(one))] for kind, one in zip(row[1], row[0][1:])]


def lead(machine, row, words, tail=()):
    """Where 0 goes with a word in each gap and one on end."""
    state = run(machine, row[0][0][0], words[0])
    for one, word in zip(ways(machine, row), words[1:]):
        state = run(machine, one[state], word)
    return run(machine, state, tail)


def grown(pairs, kinds, machine):
    """The pairs that words of these kinds lead to some of these."""
    states = range(len(machine[1]))
    while True:
        more = {(s, t) for s in states for t in states for kind in kinds
                if (machine[0][kind][s], machine[0][kind][t]) in pairs}
        if more <= pairs:
            return pairs
        pairs = pairs | more


def parted_gaps(machine, late, row):
    """For each gap of a row the pairs of states that can still be parted."""
    states = range(len(machine[1]))
    unlike = {(s, t) for s in states for t in states if machine[1][s] != machine[1][t]}
    gaps = [grown(unlike, range(len(machine[0])), machine)]
    for one in reversed(ways(machine, row)):
        gaps.append(grown({(s, t) for s in states for t in states if (one[s], one[t]) in gaps[-1]}, late, machine))
    return gaps[::-1]


def needed_by_force(machine, late, row):
    parted = parted_gaps(machine, late, row)
    words = [word for many in range(len(machine[1])) for word in itertools.product(late, repeat=many)]
    states = {run(machine, row[0][0][0], word) for word in words}
    needed = []
    for place, one in enumerate(ways(machine, row)):
        if any((one[machine[0][a][s]], machine[0][a][one[s]]) in parted[place + 1] for s in states for a in late):
            needed.append(place)
        states = {run(machine, one[state], word) for state in states for word in words}
    return tuple(needed)


def dropped(machine, row, kept):
    """The row without the marks that are not kept, one by one from the last on."""
    maps, kinds = [list(one) for one in row[0]], list(row[1])
    for place in reversed(range(len(kinds))):
        if place not in kept:
            behind = maps.pop(place + 1)
            kind = kinds.pop(place)
            maps[place] = [behind[machine[0][kind][state]] for state in maps[place]]
    return (tuple(tuple(one) for one in maps), tuple(kinds))


def pairs_by_force(machine, late, one, other):
    """For each gap the pairs that both rows come to with like late words."""
    gaps = []
    pairs = {(one[0][0][0], other[0][0][0])}
    for gap in range(len(one[1]) + 1):
        if gap:
            left, right = ways(machine, one)[gap - 1], ways(machine, other)[gap - 1]
            pairs = {(left[s], right[t]) for s, t in pairs}
        while True:
            more = pairs | {(machine[0][kind][s], machine[0][kind][t]) for s, t in pairs for kind in late}
            if more == pairs:
                break
            pairs = more
        gaps.append(pairs)
    return gaps


class RowsTest(Case):
    def test_examples(self):
        self.is_just(first_row(VALVE), (((0, 1),), ()))
        self.is_just(record_row(VALVE, (0,), (0, 1, 0, 0, 1, 0)), (((0, 0), (1, 0)), (1,)))
        self.is_just(record_row(VALVE, (), (0, 1, 0)), (((1, 1),), ()))
        self.is_just(record_row(LAST, (0, 1), (0, 1, 1)), (((1, 1), (0, 1)), (1,)))
        self.is_just(record_row(RING, (0, 1), ()), (((0, 1, 2, 3),), ()))
        row = (((1, 1), (0, 1)), (1,))
        self.is_just(row_needed(VALVE, (0,), row), (0,))
        self.is_just(row_step(VALVE, (0,), row, 1, 1), ((((0, 0), (0, 1)), (1,)), (1,)))
        self.is_just(row_step(VALVE, (0,), row, 0, 0), ((((0, 0), (0, 1)), (1,)), (1,)))
        self.is_just(row_step(VALVE, (0,), row, 1, 0), ((((1, 1), (1, 0)), (1,)), (0,)))
        self.is_just((row_state(VALVE, row), row_reading(((VALVE[0]), (5, 7)), row)), (0, 5))

    def test_machines_need_not_be_least(self):
        self.is_just(record_row(NOT_LEAST, (0,), (1, 0))[1], (1,))
        self.is_just(needed_news(NOT_LEAST, (0,), (1, 0)), (0,))

    def test_record_rows(self):
        chance = Chance(1501)
        for machine in mixed_machines(80, 1501, 4, 3, 3):
            late, word = chance.lot(len(machine[0])), chance.word(len(machine[0]), chance.below(7))
            same = tuple(range(len(machine[1])))
            whole = ((same,) * (len(word) + 1), word)
            row = record_row(machine, late, word)
            self.is_just(row, dropped(machine, whole, needed_news(machine, late, word)))
            self.is_just(row_state(machine, row), run(machine, 0, word))
            self.is_just(row_reading(machine, row), machine[1][run(machine, 0, word)])
            self.is_just(row_needed(machine, late, row), tuple(range(len(row[1]))))

    def test_needed_marks(self):
        some = 0
        for machine, late, row, _ in cases(1502, 200):
            needed = needed_by_force(machine, late, row)
            some += 0 < len(needed) < len(row[1])
            self.is_just(row_needed(machine, late, row), needed)
            self.is_just(row_state(machine, row), lead(machine, row, [()] * len(row[0])))
            self.is_just(row_reading(machine, row), machine[1][lead(machine, row, [()] * len(row[0]))])
        self.assertGreater(some, 10)

    def test_steps(self):
        for machine, late, row, _ in cases(1503, 60, 3):
            same = tuple(range(len(machine[1])))
            for place in range(len(row[1]) + 1):
                for kind in range(len(machine[0])):
                    if place < len(row[1]) and kind not in late:
                        self.refuses(InvalidKind, -1, row_step, machine, late, row, place, kind)
                        continue
                    whole = (row[0][:place + 1] + (same,) + row[0][place + 1:], row[1][:place] + (kind,) + row[1][place:])
                    kept = needed_by_force(machine, late, whole)
                    self.is_just(row_step(machine, late, row, place, kind), (dropped(machine, whole, kept), kept))

    def test_steps_go_along_records(self):
        """Put in at each place, news lead to a row that tells the same as the record's."""
        chance = Chance(1504)
        for machine in mixed_machines(40, 1504, 4, 3, 3):
            late = chance.lot(len(machine[0]))
            row, moments, heard = first_row(machine), (), ()
            for moment, kind in chance.story(machine, late, 8, 40):
                heard += ((moment, kind),)
                place = sum(mark < moment for mark in moments)
                moments = moments[:place] + (moment,) + moments[place:]
                row, kept = row_step(machine, late, row, place, kind)
                moments = tuple(moments[number] for number in kept)
                wanted = record_row(machine, late, [kind for _, kind in sorted(heard)])
                self.is_just(row_form(machine, late, row), row_form(machine, late, wanted))
                self.is_just(moments, needed_moments(machine, late, heard))

    def test_400_marks(self):
        maps = ((0, 1),) * 401
        row = (maps, (0,) * 400)
        self.is_just(row_needed(VALVE, (0, 1), row), tuple(range(400)))
        made, kept = row_step(VALVE, (0, 1), row, 200, 0)
        self.assertEqual((len(made[1]), kept), (401, tuple(range(401))))
        self.refuses(InvalidItems, -1, row_needed, VALVE, (0, 1), made)
        self.is_just(row_state(VALVE, row), 0)
        self.is_just(rows_paper(VALVE, (0, 1), row, row)[0], "alike")
        self.is_just(row_needed(VALVE, (0,), (maps, (1,) * 400)), (399,))
        self.is_just(row_needed(EIGHT, (0, 1), ((tuple(range(8)),) * 401, (2,) * 400)), ())

    def test_rows_that_are_none(self):
        good = (((0, 1), (1, 0)), (1,))
        for row in NO_ROWS:
            for call, told in ((row_state, ()), (row_reading, ()), (row_needed, ((0,),)), (row_form, ((0,),))):
                self.refuses(InvalidItems, -1, call, VALVE, *told, row)
            self.refuses(InvalidItems, -1, row_step, VALVE, (0,), row, 0, 0)
            self.refuses(InvalidItems, -1, rows_paper, VALVE, (0,), row, good)
            self.refuses(InvalidItems, -1, rows_paper, VALVE, (0,), good, row)
            self.refuses(InvalidItems, -1, rows_hold, VALVE, (0,), row, good, ())
            self.refuses(InvalidItems, -1, rows_hold, VALVE, (0,), good, row, ())

    def test_lists(self):
        for machine, late, one, other in cases(1505, 20):
            self.is_just(row_needed(machine, late, as_lists(one)), row_needed(machine, late, one))
            self.is_just(row_step(machine, late, as_lists(one), 0, 0) if 0 in late else 0,
                         row_step(machine, late, one, 0, 0) if 0 in late else 0)
            self.is_just(row_form(machine, late, as_lists(one)), row_form(machine, late, one))
            self.is_just(rows_paper(machine, late, as_lists(one), as_lists(other)),
                         rows_paper(machine, late, one, other))

    def test_wrong_steps(self):
        row = (((0, 1), (1, 0)), (1,))
        for place in (2, -1, True, None, "0", 0.5, (0,)):
            self.refuses(InvalidIndex, -1, row_step, VALVE, (0,), row, place, 9)
        for kind in (2, -1, True, None, "0", (0,)):
            self.refuses(InvalidKind, -1, row_step, VALVE, (0,), row, 1, kind)
        self.refuses(InvalidKind, -1, row_step, VALVE, (0,), row, 0, 1)
        self.refuses(InvalidKind, -1, row_step, VALVE, (), row, 0, 0)
        self.refuses(InvalidMachine, -1, row_step, 5, 5, 5, 5, 5)
        self.refuses(InvalidLate, -1, row_step, VALVE, 5, 5, 5, 5)
        self.refuses(InvalidWord, -1, record_row, VALVE, (0,), (0,) * 401)
        self.assertEqual(len(record_row(VALVE, (0, 1), (0,) * 400)[1]), 400)


class LeastTwinTest(Case):
    def test_example(self):
        twin = LeastTwin(VALVE, (0,))
        self.is_just((twin.marks(), twin.row(), twin.reading()), ((), (((0, 1),), ()), 0))
        for moment, kind in ((20, 1), (30, 0), (10, 0), (25, 0)):
            self.assertIs(twin.hear(moment, kind), None)
        self.is_just((twin.marks(), twin.row(), twin.reading()), ((20,), (((1, 0), (0, 1)), (1,)), 0))

    def test_stories(self):
        """At each moment the marks are the needed news, the reading is right, the row tells what the record does."""
        chance = Chance(1601)
        for machine in mixed_machines(80, 1601, 5, 3, 3):
            late = chance.lot(len(machine[0]))
            story = chance.story(machine, late, 12, 60)
            twin = LeastTwin(as_lists(machine), list(late))
            readings = story_readings(machine, late, story)
            self.is_just(twin.reading(), readings[0])
            row = first_row(machine)
            for many, (moment, kind) in enumerate(story, 1):
                row, _ = row_step(machine, late, row, sum(mark < moment for mark in twin.marks()), kind)
                twin.hear(moment, kind)
                self.is_just(twin.marks(), needed_moments(machine, late, story[:many]))
                self.is_just((twin.row(), twin.reading()), (row, readings[many]))
                word = [kind for _, kind in record(machine, late, story[:many])]
                self.is_just(row_form(machine, late, row), row_form(machine, late, record_row(machine, late, word)))

    def test_any_order(self):
        """Heard in any order, news of late kinds lead to the same marks and to what tells the same."""
        chance = Chance(1602)
        for machine in mixed_machines(25, 1602, 4, 2, 2):
            late = tuple(range(len(machine[0])))
            news = tuple((moment, chance.pick(late)) for moment in (3, 5, 8, 9))
            told = []
            for order in itertools.permutations(news):
                twin = LeastTwin(machine, late)
                for moment, kind in order:
                    twin.hear(moment, kind)
                told.append((twin.marks(), row_form(machine, late, twin.row()), twin.reading()))
            self.assertEqual(len(set(told)), 1)
            self.is_just(told[0][0], needed_moments(machine, late, news))

    def test_long_stories(self):
        twin = LeastTwin(VALVE, (0, 1))
        for moment in range(400):
            twin.hear(moment * 7 % 401, 0)
        self.is_just(twin.marks(), tuple(sorted(moment * 7 % 401 for moment in range(400))))
        twin = LeastTwin(EIGHT, (0, 1))
        story = Chance(1603).story(EIGHT, (0, 1), 300, 1000000)
        for moment, kind in story:
            twin.hear(moment, kind)
        self.is_just(twin.marks(), needed_moments(EIGHT, (0, 1), story))
        self.is_just(twin.reading(), story_readings(EIGHT, (0, 1), story)[-1])

    def test_wrong_news(self):
        twin = LeastTwin(VALVE, (0,))
        for moment, kind in ((20, 1), (30, 0)):
            twin.hear(moment, kind)
        kept = (twin.marks(), twin.row(), twin.reading())
        for moment in (20, -1, 10 ** 6, True, None, "5", (5,)):
            self.refuses(InvalidMoment, -1, twin.hear, moment, 9)
        for kind in (2, -1, True, None, "0", (0,)):
            self.refuses(InvalidKind, -1, twin.hear, 40, kind)
        self.refuses(InvalidKind, -1, twin.hear, 10, 1)
        self.is_just((twin.marks(), twin.row(), twin.reading()), kept)
        # What is no mark is not seen: 25 is below no mark, so even a prompt kind is heard there.
        twin.hear(kind=1, moment=25)
        self.is_just(twin.marks(), (25,))
        with self.assertRaises(TypeError):
            iter(twin)

    def test_arguments(self):
        self.refuses(InvalidMachine, -1, LeastTwin, 5, 5)
        self.refuses(InvalidLate, 0, LeastTwin, VALVE, (2,))
        maps, late = [[1, 0], [0, 0]], [0]
        twin = LeastTwin(machine=[maps, [0, 1]], late=late)
        maps[0][0] = 0
        late.append(1)
        twin.hear(3, 0)
        self.is_just((twin.reading(), twin.row()), (1, (((1, 0),), ())))


class FormsTest(Case):
    def test_examples(self):
        self.is_just(row_form(VALVE, (0,), first_row(VALVE)), ((((0,), ((1,), (0,))),), (0, 1)))
        self.is_just(row_form(VALVE, (), first_row(VALVE)), ((((0,), ((),)),), (0,)))
        row = (((1, 0), (1, 0)), (1,))
        self.is_just(row_form(VALVE, (0,), row), ((((0,), ((0,),)), ((0,), ((1,), (0,)))), (1, 0)))
        # Behind the closing it is all one what came ahead of it.
        self.is_just(row_form(VALVE, (0,), (((0, 0), (1, 0)), (1,))), row_form(VALVE, (0,), row))
        self.is_just(row_form(VALVE, (0,), (((0, 0), (0, 1)), (1,))), ((((0,), ((0,),)), ((0,), ((1,), (0,)))), (0, 1)))
        self.is_just(row_form(RING, (0,), first_row(RING)), ((((0,), ((1,), (2,), (3,), (3,))),), (0, 1, 2, 3)))
        two = (((0, 1), (0, 1), (0, 1)), (0, 1))
        self.is_just(row_form(LAST, (0, 1), two), (
            (((0,), ((0, 0),)), ((0,), ((0, 0),)), ((0,), ((1, 0), (1, 0)))), (1, 0),
        ))

    def test_forms_by_force(self):
        for machine, late, row, _ in cases(1701, 150):
            parted = parted_gaps(machine, late, row)
            layers, ends = row_form(machine, late, row)
            self.assertEqual(len(layers), len(row[1]) + 1)
            came = [row[0][0][0]]
            for gap, (begins, behind) in enumerate(layers):
                # One state for each class, in the order in which they are come to.
                classes = []

                def number(state):
                    for at, other in enumerate(classes):
                        if (state, other) not in parted[gap]:
                            return at
                    classes.append(state)
                    return len(classes) - 1

                self.is_just(begins, tuple(number(state) for state in came))
                rows = []
                while len(rows) < len(classes):
                    state = classes[len(rows)]
                    rows.append(tuple(number(machine[0][kind][state]) for kind in late))
                self.is_just(behind, tuple(rows))
                if gap < len(row[1]):
                    came = [ways(machine, row)[gap][state] for state in classes]
            relation = word_relations(machine, late, ())[0]
            self.is_just(ends, tuple(relation[state] for state in classes))

    def test_papers_by_force(self):
        told = {"alike": 0, "apart": 0}
        for machine, late, one, other in cases(1702, 150):
            if any(one[1]) and len(one[1]) % 2:
                other = (one[0][:-1] + (other[0][-1],), one[1])
            paper = rows_paper(machine, late, one, other)
            self.assertFalse(has_list(paper))
            told[paper[0]] += 1
            pairs = pairs_by_force(machine, late, one, other)
            like = all((s, t) not in parted_gaps(machine, late, first_row(machine))[0] for s, t in pairs[-1])
            self.assertEqual(paper[0], "alike" if like else "apart")
            self.is_just(row_form(machine, late, one) == row_form(machine, late, other), like)
            if like:
                self.is_just(paper, ("alike", tuple(tuple(sorted(gap)) for gap in pairs)))
            else:
                _, words, tail = paper
                self.assertEqual(len(words), len(one[1]) + 1)
                self.assertTrue(all(kind in late for word in words for kind in word))
                ends = [machine[1][lead(machine, row, words, tail)] for row in (one, other)]
                self.assertNotEqual(*ends)
            self.assertIs(rows_hold(machine, late, one, other, paper), True)
        self.assertGreater(min(told.values()), 25)

    def test_equal_forms_show_the_same(self):
        for machine, late, one, other in cases(1703, 40, 2):
            same = row_form(machine, late, one) == row_form(machine, late, other)
            words = list(itertools.product(*[list(all_late(late, 2))] * len(one[0])))
            unlike = any(
                machine[1][lead(machine, one, put, tail)] != machine[1][lead(machine, other, put, tail)]
                for put in words for tail in all_words(len(machine[0]), 2)
            )
            self.assertFalse(same and unlike)

    def test_changed_papers(self):
        for machine, late, one, other in cases(1704, 12, 2):
            for rows in ((one, other), (one, one)):
                paper = rows_paper(machine, late, *rows)
                pairs = pairs_by_force(machine, late, *rows)
                for value in changed_papers(paper):
                    wanted = self.judged(machine, late, rows, pairs, value)
                    self.assertIs(rows_hold(machine, late, *rows, value), wanted, (machine, late, rows, value))

    def judged(self, machine, late, rows, pairs, value):
        """Whether a value is a paper, by what the pairs are wanted for."""
        if not isinstance(value, tuple) or has_list(value) or any(part is True for part in flat(value)):
            return False
        states, marks = range(len(machine[1])), len(rows[0][1])
        if len(value) == 2 and value[0] == "alike":
            gaps = value[1]
            if not isinstance(gaps, tuple) or len(gaps) != marks + 1:
                return False
            for gap in gaps:
                if not isinstance(gap, tuple):
                    return False
                if not all(isinstance(pair, tuple) and len(pair) == 2 and set(pair) <= set(states) for pair in gap):
                    return False
            # What the rows come to is in there, with all that these pairs and the others come to.
            one, other = rows
            for at, gap in enumerate(gaps):
                for s, t in [*gap, *pairs[at]]:
                    if any((machine[0][kind][s], machine[0][kind][t]) not in gap for kind in late):
                        return False
                    if at < marks and (ways(machine, one)[at][s], ways(machine, other)[at][t]) not in gaps[at + 1]:
                        return False
                if not pairs[at] <= set(gap):
                    return False
            return not set(gaps[-1]) & parted_gaps(machine, late, first_row(machine))[0]
        if len(value) == 3 and value[0] == "apart":
            _, words, tail = value
            if not (isinstance(words, tuple) and isinstance(tail, tuple) and len(words) == marks + 1):
                return False
            if not all(isinstance(word, tuple) and set(word) <= set(late) for word in words):
                return False
            if not set(tail) <= set(range(len(machine[0]))):
                return False
            return len({machine[1][lead(machine, row, words, tail)] for row in rows}) == 2
        return False

    def test_other_papers_hold(self):
        one = (((0, 1), (0, 1)), (1,))
        self.assertIs(rows_hold(VALVE, (0,), one, one, ("alike", (((1, 1), (0, 0)), ((1, 1), (0, 0), (1, 1))))), True)
        self.assertIs(rows_hold(VALVE, (0,), one, one, ("alike", (((0, 0),), ((1, 1), (0, 0))))), False)
        # More pairs than are come to, of which none is parted at the end.
        self.assertIs(rows_hold(VALVE, (0,), one, one, (
            "alike", (((1, 1), (0, 0), (0, 1), (1, 0)), ((1, 1), (0, 0))),
        )), True)
        self.assertIs(rows_hold(VALVE, (0,), one, one, (
            "alike", (((1, 1), (0, 0)), ((1, 1), (0, 0), (0, 1), (1, 0))),
        )), False)
        other = (((0, 1), (1, 0)), (1,))
        self.assertIs(rows_hold(VALVE, (0,), one, other, ("apart", ((), ()), ())), True)
        self.assertIs(rows_hold(VALVE, (0,), one, other, ("apart", ((0,) * 500, (0,) * 500), (0,) * 500)), True)
        self.assertIs(rows_hold(VALVE, (0,), one, other, ("apart", ((), ()), (1,))), False)
        self.assertIs(rows_hold(VALVE, (0,), one, other, ("apart", ((1,), ()), ())), False)
        for value in ODD_VALUES:
            self.assertIs(rows_hold(VALVE, (0,), one, other, value), False)
            self.assertIs(rows_hold(VALVE, (0,), one, one, value), False)

    def test_unlike_numbers_of_marks(self):
        one, other = (((0, 1), (0, 1)), (1,)), (((0, 1),), ())
        self.refuses(Refused, -1, rows_paper, VALVE, (0,), one, other)
        self.refuses(Refused, -1, rows_hold, VALVE, (0,), other, one, ("alike", (((0, 0),),)))
        self.refuses(InvalidItems, -1, rows_hold, VALVE, (0,), one, 5, ())

    def test_forms_of_unlike_kinds(self):
        """Marks of unlike kinds may tell the same."""
        machine = (((1, 0), (1, 0)), (0, 1))
        one, other = (((0, 1), (0, 1)), (0,)), (((0, 1), (0, 1)), (1,))
        self.is_just(row_form(machine, (0, 1), one), row_form(machine, (0, 1), other))
        self.is_just(rows_paper(machine, (), one, other), ("alike", (((0, 0),), ((1, 1),))))

    def test_latch(self):
        """All lots of late kinds of a small machine: rows of one kind each."""
        for late in lots_of(2):
            for maps in itertools.product(itertools.product(range(2), repeat=2), repeat=2):
                one, other = (maps, (0,)), (maps[::-1], (1,))
                like = row_form(LATCH, late, one) == row_form(LATCH, late, other)
                self.assertEqual(rows_paper(LATCH, late, one, other)[0], "alike" if like else "apart")


def flat(value):
    if isinstance(value, (list, tuple)):
        for part in value:
            yield from flat(part)
    else:
        yield value


def all_late(late, longest):
    for many in range(longest + 1):
        yield from itertools.product(late, repeat=many)
