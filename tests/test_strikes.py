"""Promise [43]: what tables do when news are withdrawn, and two stories by which every table is deceived."""

import itertools

from forgetwhen.errors import InvalidGone, InvalidLate, InvalidLot, InvalidMachine, InvalidTwin, Refused
from forgetwhen.fewest import least_twin
from forgetwhen.strikes import need_strikes, withdrawn_stands, withdrawn_stories
from forgetwhen.tables import twin_stands
from forgetwhen.withdrawn import need_withdrawn, withdrawn_marks, withdrawn_readings
from tests.support import LAST, ODD_VALUES, VALVE, Case, Chance, as_lists, has_list, lots_of, mixed_machines
from tests.test_withdrawn import mixed_deeds

SPUN = (((1, 2, 0), (1, 0, 2), (0, 0, 0)), (0, 1, 2))


def mixed_kept(chance, many, most):
    """Some of so many numbers, at most so many."""
    kept = tuple(number for number in range(many) if chance.below(4))
    while len(kept) > most:
        at = chance.below(len(kept))
        kept = kept[:at] + kept[at + 1:]
    return kept


def mixed_table(chance, kinds, words, marks):
    """(twin, the row of the strikes for so many kinds)"""
    rules = tuple(
        tuple(
            tuple(
                tuple((chance.below(words), mixed_kept(chance, number + 1, marks)) for _ in range(kinds))
                for _ in range(number + 1)
            ) for number in range(marks + 1)
        ) for _ in range(words)
    )
    return (chance.below(words), rules, tuple(chance.below(3) for _ in range(words)))


def mixed_strikes(chance, gone, words, marks):
    return tuple(
        tuple(
            tuple(
                tuple((chance.below(words), mixed_kept(chance, number, marks)) for _ in gone)
                for _ in range(2 * number + 1)
            ) for number in range(marks + 1)
        ) for _ in range(words)
    )


def stands_by_force(twin, strikes, gone, story):
    word, marks = twin[0], []
    stands = [(word, ())]
    for moment, kind, done in story:
        if done:
            place = 2 * sum(mark < moment for mark in marks) + (moment in marks)
            word, kept = strikes[word][len(marks)][place][sorted(gone).index(kind)]
            marks = [marks[number] for number in kept]
        else:
            place = sum(mark < moment for mark in marks)
            word, kept = twin[1][word][len(marks)][place][kind]
            whole = sorted([*marks, moment])
            marks = [whole[number] for number in kept]
        stands.append((word, tuple(marks)))
    return tuple(stands)


# One word and one mark for one kind: what is heard is kept if it is later.
TWIN = (0, (((((0, (0,)),),), (((0, (1,)),), ((0, (1,)),))),), (4,))
STRIKES = (((((0, ()),),), (((0, (0,)),), ((0, ()),), ((0, (0,)),))),)
ONE = (((1, 0),), (0, 1))


class NeedStrikesTest(Case):
    def test_right_ones(self):
        chance = Chance(43)
        for machine in mixed_machines(40, 44):
            gone = chance.lot(len(machine[0]))
            words, marks = 1 + chance.below(3), chance.below(3)
            twin = mixed_table(chance, len(machine[0]), words, marks)
            strikes = mixed_strikes(chance, gone, words, marks)
            self.is_just(need_strikes(machine, gone, twin, as_lists(strikes)), strikes)
            empty = (((),) * (marks + 1),) * words
            self.is_just(need_strikes(machine, gone, as_lists(twin), empty), empty)
        self.is_just(need_strikes(ONE, (0,), TWIN, STRIKES), STRIKES)
        # Where no kind may be withdrawn, each place has an empty row.
        self.is_just(need_strikes(ONE, (), TWIN, ((((),), ((), (), ())),)), ((((),), ((), (), ())),))

    def test_whole(self):
        for value in (None, 3, (), STRIKES * 2, "a", {0: 1}):
            self.refuses(InvalidTwin, -1, need_strikes, ONE, (0,), TWIN, value)
        for value in ODD_VALUES:
            if not (isinstance(value, (list, tuple)) and len(value) == 1):
                self.refuses(InvalidTwin, -1, need_strikes, ONE, (0,), TWIN, value)
            else:
                self.refuses(InvalidTwin, 0, need_strikes, ONE, (0,), TWIN, value)

    def test_first_wrong_word(self):
        twin = (0, TWIN[1] * 3, (4, 4, 4))
        first, second = STRIKES[0]
        right = STRIKES[0]
        wrong = (
            None, 3, (), (first,), (first, second, second), (first + first, second), (first, second[:2]),
            (first, second + second[:1]), (first, ((), (), ())), (((),), second), (first, (None,) * 3),
            (first, (second[0], second[1], ((1, (0,)), (0, ())))), (first, (second[0], second[1], ((0, (1,)),))),
            ((((0, (0,)),),), second), (first, (second[0], ((0, (0, 0)),), second[2])),
            (first, (second[0], ((3, ()),), second[2])), (first, (second[0], ((-1, ()),), second[2])),
            (first, (second[0], ((True, ()),), second[2])), (first, (second[0], ((0, (False,)),), second[2])),
            (first, (second[0], ((0,),), second[2])), (first, (second[0], ((0, None),), second[2])),
            (first, (second[0], ((0, (), ()),), second[2])), (first, (second[0], (3,), second[2])),
        )
        for odd in wrong:
            self.refuses(InvalidTwin, 1, need_strikes, ONE, (0,), twin, (right, odd, odd))
        self.is_just(need_strikes(ONE, (0,), twin, [right, ((), second), (first, ())]), (right, ((), second), (first, ())))
        # Two marks ascending.
        two = mixed_table(Chance(1), 1, 1, 2)
        for kept, held in (((0, 1), True), ((1, 0), False), ((0, 0), False), ((0, 2), False), ((1,), True)):
            strikes = (((), (), (((0, kept),),) * 5),)
            if held:
                self.is_just(need_strikes(ONE, (0,), two, strikes), strikes)
            else:
                self.refuses(InvalidTwin, 0, need_strikes, ONE, (0,), two, strikes)

    def test_order_of_errors(self):
        self.refuses(InvalidMachine, -1, need_strikes, 3, 3, 3, 3)
        self.refuses(InvalidLot, -1, need_strikes, ONE, 3, 3, 3)
        self.refuses(InvalidTwin, -1, need_strikes, ONE, (0,), 3, 3)
        self.refuses(InvalidLate, -1, withdrawn_stands, ONE, 3, 3, 3, 3, 3)
        self.refuses(InvalidLot, -1, withdrawn_stands, ONE, (), 3, 3, 3, 3)
        self.refuses(InvalidTwin, 0, withdrawn_stands, ONE, (), (0,), (0, ((),), (1,)), 3, 3)
        self.refuses(InvalidTwin, -1, withdrawn_stands, ONE, (), (0,), TWIN, 3, 3)
        self.refuses(InvalidGone, -1, withdrawn_stands, ONE, (), (0,), TWIN, STRIKES, 3)


class WithdrawnStandsTest(Case):
    def test_by_force(self):
        chance = Chance(45)
        for machine in mixed_machines(120, 46, states=3):
            kinds = len(machine[0])
            late, gone = chance.lot(kinds), chance.lot(kinds)
            words, marks = 1 + chance.below(3), chance.below(3)
            twin = mixed_table(chance, kinds, words, marks)
            strikes = mixed_strikes(chance, gone, words, marks)
            story = mixed_deeds(chance, machine, late, gone, 12)
            stands = withdrawn_stands(machine, late, gone[::-1], as_lists(twin), as_lists(strikes), as_lists(story))
            self.is_just(stands, stands_by_force(twin, strikes, gone, story))

    def test_marks_withdrawn_and_others(self):
        story = ((10, 0, 0), (20, 0, 0), (10, 0, 1), (30, 0, 0), (30, 0, 1), (20, 0, 1), (40, 0, 0))
        self.is_just(withdrawn_stands(ONE, (), (0,), TWIN, STRIKES, story), (
            (0, ()), (0, (10,)), (0, (20,)), (0, (20,)), (0, (30,)), (0, ()), (0, ()), (0, (40,)),
        ))

    def test_without_withdrawn_news(self):
        twin = least_twin(VALVE, (0,))
        empty = (((),) * len(twin[1][0]),) * len(twin[1])
        news = ((5, 1), (3, 0), (9, 0), (7, 0))
        deeds = tuple((moment, kind, 0) for moment, kind in news)
        self.is_just(withdrawn_stands(VALVE, (0,), (0,), twin, empty, deeds), twin_stands(VALVE, twin, (0,), news))
        self.refuses(InvalidTwin, twin_stands(VALVE, twin, (0,), news)[-1][0], withdrawn_stands,
                     VALVE, (0,), (0,), twin, empty, (*deeds, (3, 0, 1)))

    def test_empty_where_wanted(self):
        twin = (1, (TWIN[1][0], (TWIN[1][0][0], ()), TWIN[1][0]), (4, 4, 4))
        strikes = (STRIKES[0], ((), STRIKES[0][1]), STRIKES[0])
        twin = (1, (twin[1][0], ((((1, (0,)),),), ()), twin[1][2]), twin[2])
        self.is_just(withdrawn_stands(ONE, (), (0,), twin, strikes, ((5, 0, 0),)), ((1, ()), (1, (5,))))
        self.refuses(InvalidTwin, 1, withdrawn_stands, ONE, (), (0,), twin, strikes, ((5, 0, 0), (6, 0, 0)))
        self.is_just(withdrawn_stands(ONE, (), (0,), twin, strikes, ((5, 0, 0), (5, 0, 1))), ((1, ()), (1, (5,)), (0, ())))
        forgetful = (1, (twin[1][0], ((((1, ()),),), ()), twin[1][2]), twin[2])
        self.refuses(InvalidTwin, 1, withdrawn_stands, ONE, (), (0,), forgetful, strikes, ((5, 0, 0), (5, 0, 1)))


class WithdrawnStoriesTest(Case):
    def deceived(self, machine, late, gone, twin, strikes):
        stories = withdrawn_stories(machine, late, gone, twin, strikes)
        self.assertFalse(has_list(stories))
        self.assertEqual(len(stories), 2)
        ends, right = [], []
        for story in stories:
            moments = max(len(story), 1)
            if moments <= 2000:
                self.is_just(need_withdrawn(machine, late, gone, story), story)
                right.append(withdrawn_readings(machine, late, gone, story)[-1])
                word, marks = withdrawn_stands(machine, late, gone, twin, strikes, story)[-1]
                self.assertEqual((word, marks), stands_by_force(twin, strikes, gone, story)[-1])
                ends.append((word, len(marks)))
        self.assertEqual(len(ends), 2)
        self.assertEqual(ends[0], ends[1])
        self.assertNotEqual(right[0], right[1])
        return stories

    def test_mixed_tables(self):
        chance = Chance(47)
        told = {True: 0, False: 0}
        for machine in mixed_machines(150, 48, states=3):
            kinds = len(machine[0])
            late, gone = chance.lot(kinds), chance.lot(kinds)
            words, marks = 1 + chance.below(3), chance.below(3)
            twin = mixed_table(chance, kinds, words, marks)
            strikes = mixed_strikes(chance, gone, words, marks)
            grows = withdrawn_marks(machine, late, gone) is None
            told[grows] += 1
            if grows:
                self.deceived(machine, late, list(gone), twin, strikes)
            else:
                self.refuses(Refused, -1, withdrawn_stories, machine, late, gone, twin, strikes)
        self.assertGreater(min(told.values()), 12)

    def test_all_lots(self):
        chance = Chance(49)
        for machine in (VALVE, LAST, SPUN, (((1, 2, 0), (1, 0, 2)), (0, 1, 2))):
            kinds = len(machine[0])
            for late, gone in itertools.product(lots_of(kinds), repeat=2):
                if withdrawn_marks(machine, late, gone) is None:
                    for words, marks in ((1, 0), (1, 1), (3, 1), (2, 2), (3, 2)):
                        twin = mixed_table(chance, kinds, words, marks)
                        self.deceived(machine, late, gone, twin, mixed_strikes(chance, gone, words, marks))

    def test_tables_that_keep_all_they_can(self):
        # A table of the last marks, or of the first ones, for kinds that can't be undone and for those that can.
        for machine, late, gone in (
            (LAST, (), (0,)), (SPUN, (2,), (0,)), (SPUN, (), (0, 1)), (SPUN, (0, 1), (0, 1)), (SPUN, (1,), (0,)),
            (VALVE, (1,), (0,)), (VALVE, (0,), (1,)),
        ):
            kinds = len(machine[0])
            for marks in range(3):
                for keeps_last in (True, False):
                    rules = []
                    for number in range(marks + 1):
                        whole = tuple(range(number + 1))
                        kept = whole[max(0, number + 1 - marks):] if keeps_last else whole[:marks]
                        rules.append((((0, kept),) * kinds,) * (number + 1))
                    strikes = []
                    for number in range(marks + 1):
                        rows = []
                        for place in range(2 * number + 1):
                            kept = tuple(at for at in range(number) if 2 * at + 1 != place)
                            rows.append(((0, kept),) * len(gone))
                        strikes.append(tuple(rows))
                    self.deceived(machine, late, gone, (0, (tuple(rules),), (0,)), (tuple(strikes),))

    def test_kinds_wanted_late_that_may_be_withdrawn(self):
        chance = Chance(50)
        turns = (((1, 2, 0), (1, 0, 2)), (0, 1, 2))
        for _ in range(150):
            twin = mixed_table(chance, 2, 3, 2)
            for late, gone in (((), (0, 1)), ((), (0,)), ((0,), (1,)), ((1,), (0,))):
                strikes = mixed_strikes(chance, gone, 3, 2)
                stories = self.deceived(turns, late, gone, twin, strikes)
                if not late:
                    self.assertTrue(any(deed[2] for deed in stories[0]))

    def test_states_that_are_parted_later(self):
        # What unlike states show is alike for now: words on end are wanted, of two kinds and more.
        chance = Chance(51)
        lengths = []
        for shown in ((0, 0, 0, 1), (0, 0, 1), (0, 0, 0, 0, 1)):
            many = len(shown)
            turns = (*range(1, many), 0)
            machine = ((turns, (1, 0, *range(2, many)), (0, *range(many - 1))), shown)
            for late, gone in (((), (0, 1)), ((1,), (0,)), ((0, 1), ()), ((), (2,)), ((0,), (1, 2)), ((2,), (0,))):
                for words, marks in ((1, 1), (3, 2)):
                    twin = mixed_table(chance, 3, words, marks)
                    one, other = self.deceived(machine, late, gone, twin, mixed_strikes(chance, gone, words, marks))
                    shortest = min(len(one), len(other))
                    ends = [at for at in range(1, shortest + 1) if one[-at][1:] != other[-at][1:] or one[-at][2]]
                    lengths.append(min([*ends, shortest]))
        self.assertGreater(max(lengths), 1)

    def test_kinds_that_are_not_one_to_one(self):
        twin, strikes = keeps_last(2, 2)
        stories = self.deceived(LAST, (), (0, 1), twin, strikes)
        self.assertEqual({kind for story in stories for _, kind, done in story if done}, {0})
        for gone in ((1,), (2,), (1, 2), (0, 1, 2)):
            self.deceived(SPUN, (), gone, *keeps_last(3, len(gone)))

    def test_empty_ones(self):
        twin, strikes = keeps_last(2, 2)
        empty = (((), ()),)
        self.refuses(InvalidTwin, 0, withdrawn_stories, LAST, (), (0, 1), twin, empty)
        self.refuses(InvalidTwin, 0, withdrawn_stories, LAST, (), (0, 1), (0, empty, (0,)), strikes)
        self.refuses(Refused, -1, withdrawn_stories, ONE, (), (0,), TWIN, STRIKES)
        self.refuses(Refused, -1, withdrawn_stories, ONE, (), (0,), (0, empty, (0,)), empty)


def keeps_last(kinds, gone):
    """A table of one word whose mark is what came last, and its strikes, which drop it."""
    rules = ((((0, (0,)),) * kinds,), (((0, (1,)),) * kinds,) * 2)
    return (0, (rules,), (0,)), (((((0, ()),) * gone,), (((0, ()),) * gone,) * 3),)
